import PyProof.Rows.All
import Wide.All
import OpenK.AllK
import Wide.FinOn
import HandS.ForMost
import HandS.Flow
import HandS.TupAny
import HandS.IsInst
import HandS.OwnEq
import HandS.Lambda
import HandS.MakeKw
import HandS.MakeKwOnly
import HandS.Strs
import HandS.RaiseMore
import HandS.Style
import KE.GoesEnum
import KE.KCallOwn
import PyProof.InstNe
import HandS.ClsMeth
import HandS.Star
import HandS.TryMany
import KE.KUnpackStar
import HandS.DictComp
import KE.KDictDisplayH
import HandS.Deep
import HandS.WideBits
import HandS.SetKeys
import HandS.Iter
import HandS.More
import KE.KRevSl
import HandS.NoneIn
import HandS.HotCalls
import HandS.CallSlots
import HandS.ExcInit
import HandS.WordsExc
import HandS.Nested
import HandS.HeadWalk
import KE.KExcSuper
import KE.KExcMake
import HandS.ExcOwn
import KE.KTryMore
import HandS.ExcIs
import HandS.ExcInitHot
import HandS.EndTab
import HandS.SetFor
import KE.KExcLine
import KE.RegKTryMore
import KE.RegKIsAll
import HandS.Zip
import PyProof.Rows.TupMore
import PyProof.Rows.SetFrom
import HandS.Dict
import KE.KExcInit
import KE.RegKSuper
import PyProof.ListStr
import PyProof.TupleOfStr
import HandS.Replace
import HandS.TupMul
import HandS.SortRule
import PyProof.Rows.SortShellAny
import KE.KDictZip
import PyProof.Rows.StrRev
import KE.KDictList
import KE.GoesZip
import HandS.TryOnly
import HandS.DictEq
import HandS.Spec
import PyProof.EqKinds
import PyProof.FactsAll.subtypes_4
import HandS.SuiteRaise
import HandS.RaiseFrom
import HandS.NestedHot
import PyProof.NeKinds
import PySem.Challenge.RW_fliponce_k02_whole_switches_and_rules_ju
import PyProof.StrLawsIn
set_option Elab.async false
set_option linter.all false
set_option maxRecDepth 100000
set_option maxHeartbeats 4000000
namespace Fli
open PySem L2
/-- the program and the world: what dicts with tuples for keys hash by -/
class HW where
  P : Program
  w : World
  T : List (Addr × Str) := []
variable [HW]
/-- a dict whose keys are tuples of ints and texts: entries by key, the key's address, the value -/
def DXp (P : Program) (w : World) (a : Addr) (xs : List (List Key × Addr × V)) : Heap → Prop := fun h => xs.length ≤ sizeLine ∧ (a == sysModules) = false ∧ ∃ zs : List (List Key × Addr × Value),
  Paired (fun (p : List Key × Addr × V) (q : List Key × Addr × Value) => p.1 = q.1 ∧ p.2.1 = q.2.1 ∧ RelV p.2.2 q.2.2) xs zs ∧
  ∃ o es ep, h.get? a = some o ∧ o.ExactDict ∧ o.data = .dict es ep ∧ es.toList = zs.map (entryOfKey (tupleKind (mixKind P w))) ∧ (zs.map (·.1)).Nodup
def DX (a : Addr) (xs : List (List Key × Addr × V)) : HO := .ext (DXp HW.P HW.w a xs)

/-! data: what a value is worth, whatever its address -/
inductive D where
  | non | bl (b : Bool) | int (i : Int) | str (x : Str)
  | tup (ds : List D) | lst (ds : List D) | ins (c : Str) (fs : List (Str × D)) | scr (ns : List Int)
  | cls (c : Str) | dic (kvs : List (Key × D)) | dit (kvs : List (List Key × D)) | ptr (a : Addr) | exc (a dx : Addr) (fs : List (Str × D))
  deriving Inhabited

/-- a tuple whose object is known to bear no dict of its own -/
def FT (ob : Obj) : Prop := ob.cls = .type "tuple" ∧ ob.dict = none
def SqF (K : PySem.W.Frag) (W : Hp) (a : Addr) (xs : List V) : Prop :=
  (∃ ob, W a = some (.frz ob (.tup xs)) ∧ FT ob) ∨
  (∃ o its n, K.lookup a = some o ∧ o.cls = .type "tuple" ∧ o.dict = none ∧ o.data = .seq its n ∧ its.size ≤ sizeLine ∧ Vals xs its.toList)
theorem SqF.t {K : PySem.W.Frag} {W : Hp} {a : Addr} {xs : List V} (h : SqF K W a xs) : SqT K W a xs := by
  rcases h with ⟨ob, h, _⟩ | ⟨o, its, n, h1, h2, _, h3, h4, h5⟩
  · exact .inl (.inr ⟨ob, h⟩)
  · exact .inr ⟨o, its, n, h1, h2, h3, h4, h5⟩

mutual
inductive DR (K : PySem.W.Frag) (mg : Str → Option Value) (W : Hp) : V → D → Prop
  | non : DR K mg W .non .non
  | bl (b : Bool) : DR K mg W (.bl b) (.bl b)
  | int (i : Int) : DR K mg W (.int i) (.int i)
  | str (x : Str) : DR K mg W (.str x) (.str x)
  | tup {a : Addr} {vs : List V} {ds : List D} : SqF K W a vs → DRs K mg W vs ds → DR K mg W (.ref a) (.tup ds)
  | lst {a : Addr} {vs : List V} {ds : List D} : W a = some (.lst vs) → DRs K mg W vs ds → DR K mg W (.ref a) (.lst ds)
  | scr {a : Addr} {ns : List Int} : SqL K W a (ns.map V.int) → DR K mg W (.ref a) (.scr ns)
  | ins {a C dx : Addr} {c : Str} {gs : List (Str × V)} {fs : List (Str × D)} : mg c = some (.ref C) → W a = some (.ins C dx gs) → DFs K mg W gs fs → DR K mg W (.ref a) (.ins c fs)
  | cls {C : Addr} {c : Str} : mg c = some (.ref C) → DR K mg W (.ref C) (.cls c)
  | dic {a : Addr} {gs : List (Key × V)} {kvs : List (Key × D)} : Rd W a (.dK gs) → DKs K mg W gs kvs → DR K mg W (.ref a) (.dic kvs)
  | dit {a : Addr} {gs : List (List Key × Addr × V)} {kvs : List (List Key × D)} : W a = some (DX a gs) → DTs K mg W gs kvs → DR K mg W (.ref a) (.dit kvs)
  | ptr {a : Addr} : DR K mg W (.ref a) (.ptr a)
  | exc {a dx : Addr} {gs : List (Str × V)} {fs : List (Str × D)} : W dx = some (.xd gs) → DFs K mg W gs fs → DR K mg W (.ref a) (.exc a dx fs)
inductive DRs (K : PySem.W.Frag) (mg : Str → Option Value) (W : Hp) : List V → List D → Prop
  | nil : DRs K mg W [] []
  | cons {v : V} {vs : List V} {d : D} {ds : List D} : DR K mg W v d → DRs K mg W vs ds → DRs K mg W (v :: vs) (d :: ds)
inductive DFs (K : PySem.W.Frag) (mg : Str → Option Value) (W : Hp) : List (Str × V) → List (Str × D) → Prop
  | nil : DFs K mg W [] []
  | cons {n : Str} {v : V} {gs : List (Str × V)} {d : D} {fs : List (Str × D)} : DR K mg W v d → DFs K mg W gs fs → DFs K mg W ((n, v) :: gs) ((n, d) :: fs)
inductive DKs (K : PySem.W.Frag) (mg : Str → Option Value) (W : Hp) : List (Key × V) → List (Key × D) → Prop
  | nil : DKs K mg W [] []
  | cons {n : Key} {v : V} {gs : List (Key × V)} {d : D} {fs : List (Key × D)} : DR K mg W v d → DKs K mg W gs fs → DKs K mg W ((n, v) :: gs) ((n, d) :: fs)
inductive DTs (K : PySem.W.Frag) (mg : Str → Option Value) (W : Hp) : List (List Key × Addr × V) → List (List Key × D) → Prop
  | nil : DTs K mg W [] []
  | cons {n : List Key} {b : Addr} {v : V} {gs : List (List Key × Addr × V)} {d : D} {fs : List (List Key × D)} : SqF K W b (n.map kV) → DR K mg W v d → DTs K mg W gs fs → DTs K mg W ((n, b, v) :: gs) ((n, d) :: fs)
end

/-- what is known stays known -/
def Le (W W' : Hp) : Prop := ∀ a o, W a = some o → W' a = some o
theorem Le.refl (W : Hp) : Le W W := fun _ _ h => h
theorem Le.trans {A B C : Hp} (x : Le A B) (y : Le B C) : Le A C := fun a o h => y a o (x a o h)
theorem Le.upd {W : Hp} {p : Addr} {o : HO} (h : W p = none) : Le W (upd W p o) := fun a u e => by
  rw [upd_ne (ne_of_none e h)]; exact e

section
variable {K : PySem.W.Frag} {mg : Str → Option Value} {W W' : Hp}
theorem sl_le {a : Addr} {vs : List V} (e : Le W W') (h : SqL K W a vs) : SqL K W' a vs := Same.seq e h
theorem sf_le {a : Addr} {vs : List V} (e : Le W W') (h : SqF K W a vs) : SqF K W' a vs := by
  rcases h with ⟨ob, h, f⟩ | h
  · exact .inl ⟨ob, e _ _ h, f⟩
  · exact .inr h
theorem st_le {a : Addr} {vs : List V} (e : Le W W') (h : SqF K W a vs) : SqT K W' a vs := (sf_le e h).t
mutual
theorem DR.le (e : Le W W') : ∀ {v : V} {d : D}, DR K mg W v d → DR K mg W' v d
  | _, _, .non => .non
  | _, _, .bl b => .bl b
  | _, _, .int i => .int i
  | _, _, .str x => .str x
  | _, _, .tup s r => .tup (sf_le e s) (DRs.le e r)
  | _, _, .lst s r => .lst (e _ _ s) (DRs.le e r)
  | _, _, .scr s => .scr (sl_le e s)
  | _, _, .ins m h r => .ins m (e _ _ h) (DFs.le e r)
  | _, _, .cls m => .cls m
  | _, _, .dic h r => .dic (h.imp (e _ _) fun ⟨o, z⟩ => ⟨o, e _ _ z⟩) (DKs.le e r)
  | _, _, .dit h r => .dit (e _ _ h) (DTs.le e r)
  | _, _, .ptr => .ptr
  | _, _, .exc h r => .exc (e _ _ h) (DFs.le e r)
theorem DRs.le (e : Le W W') : ∀ {vs : List V} {ds : List D}, DRs K mg W vs ds → DRs K mg W' vs ds
  | _, _, .nil => .nil
  | _, _, .cons h r => .cons (DR.le e h) (DRs.le e r)
theorem DFs.le (e : Le W W') : ∀ {gs : List (Str × V)} {fs : List (Str × D)}, DFs K mg W gs fs → DFs K mg W' gs fs
  | _, _, .nil => .nil
  | _, _, .cons h r => .cons (DR.le e h) (DFs.le e r)
theorem DKs.le (e : Le W W') : ∀ {gs : List (Key × V)} {fs : List (Key × D)}, DKs K mg W gs fs → DKs K mg W' gs fs
  | _, _, .nil => .nil
  | _, _, .cons h r => .cons (DR.le e h) (DKs.le e r)
theorem DTs.le (e : Le W W') : ∀ {gs : List (List Key × Addr × V)} {fs : List (List Key × D)}, DTs K mg W gs fs → DTs K mg W' gs fs
  | _, _, .nil => .nil
  | _, _, .cons s h r => .cons (sf_le e s) (DR.le e h) (DTs.le e r)
end
theorem DRs.len : ∀ {vs : List V} {ds : List D}, DRs K mg W vs ds → vs.length = ds.length
  | _, _, .nil => rfl
  | _, _, .cons _ r => by simp [DRs.len r]
theorem DRs.get : ∀ {vs : List V} {ds : List D} {i : Nat} {d : D}, DRs K mg W vs ds → ds[i]? = some d → ∃ v, vs[i]? = some v ∧ DR K mg W v d
  | _, _, _, _, .nil, e => by simp at e
  | _, _, 0, _, .cons h _, e => by simp at e; subst e; exact ⟨_, rfl, h⟩
  | _, _, i + 1, _, .cons _ r, e => by
    obtain ⟨v, a, b⟩ := DRs.get (i := i) r (by simpa using e)
    exact ⟨v, by simpa using a, b⟩
theorem DRs.get' : ∀ {vs : List V} {ds : List D} {i : Nat} {v : V}, DRs K mg W vs ds → vs[i]? = some v → ∃ d, ds[i]? = some d ∧ DR K mg W v d
  | _, _, _, _, .nil, e => by simp at e
  | _, _, 0, _, .cons h _, e => by simp at e; subst e; exact ⟨_, rfl, h⟩
  | _, _, i + 1, _, .cons _ r, e => by
    obtain ⟨v, a, b⟩ := DRs.get' (i := i) r (by simpa using e)
    exact ⟨v, by simpa using a, b⟩
theorem DRs.app : ∀ {vs us : List V} {ds es : List D}, DRs K mg W vs ds → DRs K mg W us es → DRs K mg W (vs ++ us) (ds ++ es)
  | _, _, _, _, .nil, s => s
  | _, _, _, _, .cons h r, s => .cons h (DRs.app r s)
theorem DRs.take : ∀ {vs : List V} {ds : List D} (n : Nat), DRs K mg W vs ds → DRs K mg W (vs.take n) (ds.take n)
  | _, _, 0, _ => .nil
  | _, _, _ + 1, .nil => .nil
  | _, _, n + 1, .cons h r => .cons h (DRs.take n r)
theorem DRs.drop : ∀ {vs : List V} {ds : List D} (n : Nat), DRs K mg W vs ds → DRs K mg W (vs.drop n) (ds.drop n)
  | _, _, 0, r => r
  | _, _, _ + 1, .nil => .nil
  | _, _, n + 1, .cons _ r => DRs.drop n r
theorem DRs.set {v : V} {d : D} (h : DR K mg W v d) : ∀ {vs : List V} {ds : List D} (n : Nat), DRs K mg W vs ds → DRs K mg W (vs.set n v) (ds.set n d)
  | _, _, _, .nil => .nil
  | _, _, 0, .cons _ r => .cons h r
  | _, _, n + 1, .cons g r => .cons g (DRs.set h n r)
theorem DRs.erase : ∀ {vs : List V} {ds : List D} (n : Nat), DRs K mg W vs ds → DRs K mg W (vs.eraseIdx n) (ds.eraseIdx n)
  | _, _, _, .nil => .nil
  | _, _, 0, .cons _ r => r
  | _, _, n + 1, .cons g r => .cons g (DRs.erase n r)
end

/-! what a slot holds: data, or an object of its own that no one else knows -/
inductive O where
  | lst (ds : List D) | obj (c : Str) (fs : List (Str × D)) | dic (kvs : List (Key × D)) | dit (kvs : List (List Key × D))
inductive A where
  | d (x : D) | own (o : O)
abbrev S := List (Option A)
def O.d : O → D
  | .lst ds => .lst ds
  | .obj c fs => .ins c fs
  | .dic kvs => .dic kvs
  | .dit kvs => .dit kvs

def OR (K : PySem.W.Frag) (mg : Str → Option Value) (H W : Hp) (a : Addr) (o : O) : Prop :=
  W a = none ∧ match o with
    | .lst ds => ∃ vs, H a = some (.lst vs) ∧ DRs K mg W vs ds
    | .obj c fs => ∃ C dx gs, mg c = some (.ref C) ∧ H a = some (.ins C dx gs) ∧ DFs K mg W gs fs
    | .dic kvs => ∃ gs, H a = some (.dK gs) ∧ DKs K mg W gs kvs
    | .dit kvs => ∃ gs, H a = some (DX a gs) ∧ DTs K mg W gs kvs
def Own (sd : S) (σ : L2.St) (a : Addr) : Prop := ∃ (i : Nat) (o : O), sd[i]? = some (some (.own o)) ∧ σ[i]? = some (some (.ref a))

/-- all but tables of code objects -/
def nt : HO → Bool
  | .tbl _ => false
  | _ => true
/-- neither a table nor a code object -/
def mt (u : HO) : Prop := nt u = true ∧ ∀ c q, u ≠ LamX.CodeO c q
theorem dx_code {a c : Addr} {q : Str} {xs : List (List Key × Addr × V)} : DX a xs ≠ LamX.CodeO c q := fun z => by
  unfold DX LamX.CodeO at z
  have e := HO.ext.inj z
  let g : Heap := { objs := Array.replicate (c + 1) { cls := .none, data := .fields #[.none, .str q 0] } }
  have e1 : g.get? c = some { cls := .none, data := .fields #[.none, .str q 0] } := by
    show (match g.objs[c]? with | some ⟨_, _, .freed, _⟩ => none | o => o) = _
    rw [show g.objs[c]? = some { cls := .none, data := .fields #[.none, .str q 0] } from by simp [g, Array.getElem?_replicate]]
  have e2 := (congrFun e g).mpr ⟨_, #[.none, .str q 0], 0, e1, rfl, rfl⟩
  obtain ⟨_, _, _, _, o, es, ep, h1, _, h2, _⟩ := e2
  have h3 : (match g.objs[a]? with | some ⟨_, _, .freed, _⟩ => none | o => o) = some o := h1
  simp only [g, Array.getElem?_replicate] at h3
  split at h3
  · cases h3
  · split at h3
    · cases h3
      cases h2
    · cases h3
theorem mt_lst {xs : List V} : mt (.lst xs) := ⟨rfl, fun _ _ z => nomatch z⟩
theorem mt_dK {xs : List (Key × V)} : mt (.dK xs) := ⟨rfl, fun _ _ z => nomatch z⟩
theorem mt_ins {C dx : Addr} {fs : List (Str × V)} : mt (.ins C dx fs) := ⟨rfl, fun _ _ z => nomatch z⟩
theorem mt_dx {a : Addr} {xs : List (List Key × Addr × V)} : mt (DX a xs) := ⟨rfl, fun _ _ => dx_code⟩
theorem mt_at {H : Hp} {p : Addr} {u : HO} (e : H p = some u) (m : mt u) : ∀ v, H p = some v → mt v := fun v h => by rw [e] at h; cases h; exact m
/-- the tables of the defs that make lambdas, their code objects -/
def TabW (H W : Hp) : Prop := (∀ a ps, W a ≠ some (.tbl ps)) ∧ (∀ p ∈ HW.T, W p.1 = none) ∧ LamX.Tabs HW.T H
theorem upd_nt {W : Hp} {p : Addr} {o : HO} (nu : ∀ ps, o ≠ .tbl ps) (h : ∀ a ps, W a ≠ some (.tbl ps)) : ∀ a ps, upd W p o a ≠ some (.tbl ps) := fun a ps z => by
  by_cases e : a = p
  · rw [e, upd_same] at z; exact nu ps (Option.some.inj z)
  · rw [upd_ne e] at z; exact h a ps z
theorem TabW.step {H W H' W' : Hp} (t : TabW H W) (hn : (∀ a ps, W a ≠ some (.tbl ps)) → ∀ a ps, W' a ≠ some (.tbl ps)) (h : ∀ a ps, H a = some (.tbl ps) → W a = none → H' a = some (.tbl ps) ∧ W' a = none) (hc : ∀ c q, H c = some (LamX.CodeO c q) → H' c = some (LamX.CodeO c q)) : TabW H' W' :=
  ⟨hn t.1, fun p hp => by
    obtain ⟨ps, h1, _⟩ := t.2.2 p hp
    exact (h _ _ h1 (t.2.1 p hp)).2, fun p hp => by
    obtain ⟨ps, h1, h2, h3⟩ := t.2.2 p hp
    refine ⟨ps, (h _ _ h1 (t.2.1 p hp)).1, h2, fun pos cv hv => ?_⟩
    obtain ⟨c, e1, e2⟩ := h3 pos cv hv
    exact ⟨c, e1, hc _ _ e2⟩⟩
theorem TabW.upd {H W : Hp} (t : TabW H W) {p : Addr} {o : HO} (h : ∀ u, H p = some u → mt u) : TabW (upd H p o) W := t.step (fun z => z) (fun a ps e w => by
    rw [upd_ne fun z => by rw [z] at e; exact Bool.noConfusion (h _ e).1]; exact ⟨e, w⟩) fun c q e => by
  rw [upd_ne fun z => by rw [z] at e; exact (h _ e).2 c q (by rw [z])]; exact e
structure St (K : PySem.W.Frag) (mg : Str → Option Value) (sd : S) (σ : L2.St) (H W : Hp) : Prop where
  tabs : TabW H W
  le : Le W H
  len : sd.length = σ.length
  dat : ∀ (i : Nat) (d : D), sd[i]? = some (some (.d d)) → ∃ v, σ[i]? = some (some v) ∧ DR K mg W v d
  own : ∀ (i : Nat) (o : O), sd[i]? = some (some (.own o)) → ∃ a, σ[i]? = some (some (.ref a)) ∧ OR K mg H W a o
  inj : ∀ (i j : Nat) (o u : O) (a : Addr), sd[i]? = some (some (.own o)) → sd[j]? = some (some (.own u)) → σ[i]? = some (some (.ref a)) → σ[j]? = some (some (.ref a)) → i = j

structure Kp (sd : S) (σ : L2.St) (H W : Hp) (sd' : S) (σ' : L2.St) (H' W' : Hp) : Prop where
  le : Le W W'
  keep : ∀ a o, H a = some o → ¬ Own sd σ a → nt o = true → H' a = some o
  new : ∀ a, W a = none → H a ≠ none → ¬ Own sd σ a → W' a = none
  own : ∀ a, Own sd' σ' a → Own sd σ a ∨ H a = none
  there : ∀ a, H a ≠ none → H' a ≠ none

theorem OR.mt {K : PySem.W.Frag} {mg : Str → Option Value} {H W : Hp} {a : Addr} {o : O} (r : OR K mg H W a o) (u : HO) (e : H a = some u) : Fli.mt u := by
  obtain ⟨_, r⟩ := r
  cases o with
  | lst ds => obtain ⟨vs, q, _⟩ := r; rw [q] at e; cases e; exact mt_lst
  | obj c fs => obtain ⟨C, dx, gs, _, q, _⟩ := r; rw [q] at e; cases e; exact mt_ins
  | dic kvs => obtain ⟨gs, q, _⟩ := r; rw [q] at e; cases e; exact mt_dK
  | dit kvs => obtain ⟨gs, q, _⟩ := r; rw [q] at e; cases e; exact mt_dx
section
variable {K : PySem.W.Frag} {mg : Str → Option Value} {sd sd1 sd2 : S} {σ σ1 σ2 : L2.St} {H H1 H2 W W1 W2 : Hp}
theorem Kp.refl : Kp sd σ H W sd σ H W := ⟨Le.refl _, fun _ _ h _ _ => h, fun _ h _ _ => h, fun _ h => .inl h, fun _ h => h⟩
theorem Kp.trans (a : Kp sd σ H W sd1 σ1 H1 W1) (b : Kp sd1 σ1 H1 W1 sd2 σ2 H2 W2) : Kp sd σ H W sd2 σ2 H2 W2 := by
  have no : ∀ p, H p ≠ none → ¬ Own sd σ p → ¬ Own sd1 σ1 p := fun p h n o => (a.own p o).elim n fun z => h z
  refine ⟨a.le.trans b.le, fun p o h n t => ?_, fun p h h' n => ?_, fun p o => ?_, fun p h => b.there p (a.there p h)⟩
  · exact b.keep p o (a.keep p o h n t) (no p (by rw [h]; simp) n) t
  · exact b.new p (a.new p h h' n) (a.there p h') (no p h' n)
  · rcases b.own p o with z | z
    · exact a.own p z
    · refine .inr ?_
      cases q : H p with
      | none => rfl
      | some u => exact absurd z (a.there p (by rw [q]; simp))
end

/-! rules that make tuples, with what is known of their objects -/
section
open PySem.Spec PyProof.Rows
variable {X : Cx}
theorem ft_new {its : Array Value} : FT ({ cls := .type "tuple", data := .seq its } : Obj) := ⟨rfl, rfl⟩
theorem lay_F {pins : List (Addr × Obj)} {σ : L2.St} {H : Hp} {s : Shared} {xs : List V} {us : List Value} (I : Inv X pins σ H s) (r : Vals xs us) (z : xs.length ≤ sizeLine) :
    Inv X pins σ (upd H s.heap.objs.size (.frz { cls := .type "tuple", data := .seq us.toArray } (.tup xs))) { s with heap := s.heap.push { cls := .type "tuple", data := .seq us.toArray } } :=
  I.laid (t' := s.toks) (fun _ _ e => Heap.get?_push_of_some _ e) (Nat.le_refl _) ⟨Heap.get?_push_size _ rfl, z, us, r, IsTup.new _ _⟩
def tTupF (t : TA) : TE := fun σ H Q => t σ H fun xs H1 => xs.length ≤ sizeLine ∧ ∀ p ob, H1 p = none → FT ob → Q (.ref p) (upd H1 p (.frz ob (.tup xs)))
theorem pe_tupF {es : List Expr} {t : TA} {pos : Pos} {k : Nat} (h : PA X es t) : PE X (.Tuple es k pos) (tTupF t) := by
  constructor
  intro pins s σ H Q I hq
  refine wpAny_Tuple_spliced (thn (h.run pos pins s σ H _ I hq) ?_)
  rintro us s1 ⟨xs, H1, I1, r, z, q⟩
  exact ⟨by rw [← r.length]; exact z, .ref s1.heap.objs.size, _, lay_F I1 r z, rfl, q _ _ (I1.hok.fresh (Nat.le_refl _)) ft_new⟩
def rTupF (K : PySem.W.Frag) : List V → Hp → VK → Prop := fun xs H Q => ∃ p ys, xs = [.ref p] ∧
  ((SqL K H p ys ∧ ∀ l ob, H l = none → FT ob → Q (.ref l) (upd H l (.frz ob (.tup ys)))) ∨ (SqT K H p ys ∧ Q (.ref p) H))
theorem call_tupleF : CallR X (.type "tuple") (rTupF X.K) := by
  intro pins s σ H xs us Q I r h
  obtain ⟨p, ys, rfl, h⟩ := h
  obtain ⟨u, rfl, rx⟩ := vals1 r
  cases rx
  rcases h with ⟨hq, q⟩ | ⟨hq, q⟩
  · obtain ⟨its, r', pl, hz⟩ := I.list hq
    have hlen := r'.length
    refine call_tuple_list pl.isList (fun h' kp => ?_) (by simp only [List.size_toArray] <;> omega)
    have I1 : Inv X pins σ H { s with heap := h' } := I.kept (t' := s.toks) kp
    exact ⟨.ref h'.objs.size, _, lay_F I1 r' hz, rfl, q _ _ (I1.hok.fresh (Nat.le_refl _)) ft_new⟩
  · obtain ⟨its, r', pl, hz⟩ := I.tuple hq
    exact call_tuple_same pl ⟨.ref p, H, I, rfl, q⟩
def rSlF (K : PySem.W.Frag) : V → Option Int → Option Int → Hp → VK → Prop := fun x lo hi H Q => ∃ a xs, x = .ref a ∧ SqT K H a xs ∧
  (HT.sIx xs.length 0 lo = 0 ∧ HT.sIx xs.length xs.length hi = xs.length → Q (.ref a) H) ∧
  (¬ (HT.sIx xs.length 0 lo = 0 ∧ HT.sIx xs.length xs.length hi = xs.length) → ∀ p ob, H p = none → FT ob → Q (.ref p) (upd H p (.frz ob (.tup (cutV xs lo hi)))))
theorem sl_tupF : SlR X (rSlF X.K) := by
  intro pins s σ H x v vl vu lo hi sl Q I rx hs pl pu h
  obtain ⟨a, xs, rfl, hx, q1, q2⟩ := h
  cases rx
  obtain ⟨its, r, ht, hz⟩ := I.tuple hx
  have hlen : its.toArray.size = xs.length := by rw [List.size_toArray]; exact r.length.symm
  refine ⟨"tuple", _, PyProof.Rows.slot_tuple_getitem.lookup, ht.typeIs, ?_⟩
  by_cases hw : HT.sIx xs.length 0 lo = 0 ∧ HT.sIx xs.length xs.length hi = xs.length
  · exact getItem_tuple_whole ht hs pl pu (by rw [hlen]; exact hw) ⟨.ref a, H, I, rfl, q1 hw⟩
  · refine HT.getItem_tuple_cut ht hs pl pu (by rw [hlen]; exact hw) ?_ (by rw [hlen]; exact hz)
    rw [hlen]
    have rc := (r.drop (HT.sIx xs.length 0 lo)).take (HT.sIx xs.length xs.length hi - HT.sIx xs.length 0 lo)
    exact ⟨.ref s.heap.objs.size, _, lay_F I (xs := cutV xs lo hi) rc (Nat.le_trans (cutV_length xs lo hi) hz), rfl, q2 hw _ _ (I.hok.fresh (Nat.le_refl _)) ft_new⟩
def rCatF (K : PySem.W.Frag) : R2 := fun x y H Q => ∃ a b xs ys, x = .ref a ∧ y = .ref b ∧ SqT K H a xs ∧ SqT K H b ys ∧ xs.length + ys.length ≤ sizeLine ∧
  (xs = [] → Q (.ref b) H) ∧ (xs ≠ [] → ys = [] → Q (.ref a) H) ∧ (xs ≠ [] → ys ≠ [] → ∀ p ob, H p = none → FT ob → Q (.ref p) (upd H p (.frz ob (.tup (xs ++ ys)))))
theorem op_catF : OpR X (binaryOp .Add) (rCatF X.K) := by
  intro pins s σ H x y v u Q I rx ry h
  obtain ⟨a, b, xs, ys, rfl, rfl, ha, hb, hz, q0, q1, q2⟩ := h
  cases rx
  cases ry
  obtain ⟨its, r1, p1, _⟩ := I.tuple ha
  obtain ⟨its2, r2, p2, _⟩ := I.tuple hb
  by_cases hx : xs = []
  · subst hx
    cases r1
    exact cat_tup0 p1 p2 ⟨.ref b, H, I, rfl, q0 rfl⟩
  · have nz : ∀ {zs : List V} {ws : List Value}, Vals zs ws → ws = [] → zs = [] := fun r e => by subst e; cases r; rfl
    have zn : ∀ {zs : List V} {ws : List Value}, Vals zs ws → zs = [] → ws = [] := fun r e => by subst e; cases r; rfl
    refine HT.cat_tup p1 p2 (fun z => hx (nz r1 z)) (fun z => ⟨.ref a, H, I, rfl, q1 hx (nz r2 z)⟩) (fun z => ?_) (by rw [← r1.length, ← r2.length]; exact hz)
    exact ⟨.ref s.heap.objs.size, _, lay_F I (r1.append r2) (by rw [List.length_append]; exact hz), rfl, q2 hx (fun w => z (zn r2 w)) _ _ (I.hok.fresh (Nat.le_refl _)) ft_new⟩
end
end Fli
set_option Elab.async false
set_option linter.all false
set_option maxRecDepth 100000
set_option maxHeartbeats 4000000
namespace Fli
open PySem L2
variable [HW]

theorem PE.imp {X : Cx} {e : Expr} {t t' : TE} (h : PE X e t) (f : ∀ σ H Q, t' σ H Q → t σ H Q) : PE X e t' := ⟨fun p s σ H Q I q => h.run p s σ H Q I (f σ H Q q)⟩
theorem PT.imp {X : Cx} {e : Expr} {t t' : TT} (h : PT X e t) (f : ∀ σ H Q, t' σ H Q → t σ H Q) : PT X e t' := ⟨fun p s σ H Q I q => h.run p s σ H Q I (f σ H Q q)⟩
theorem PW.imp {X : Cx} {e : Expr} {t t' : TT} (h : PW X e t) (f : ∀ σ H Q, t' σ H Q → t σ H Q) : PW X e t' := ⟨fun z p s σ H Q I q => h.run z p s σ H Q I (f σ H Q q)⟩
theorem PA.imp {X : Cx} {e : List Expr} {t t' : TA} (h : PA X e t) (f : ∀ σ H Q, t' σ H Q → t σ H Q) : PA X e t' := ⟨fun z p s σ H Q I q => h.run z p s σ H Q I (f σ H Q q)⟩
theorem PO.imp {X : Cx} {e : Option Expr} {t t' : TO} (h : PO X e t) (f : ∀ σ H Q, t' σ H Q → t σ H Q) : PO X e t' := ⟨fun p s σ H Q I q => h.run p s σ H Q I (f σ H Q q)⟩
theorem PS.imp {X : Cx} {e : Stmt} {t t' : TS} (h : PS X e t) (f : ∀ D σ H, t' D σ H → t D σ H) : PS X e t' := ⟨fun p s σ H D I q => h.run p s σ H D I (f D σ H q)⟩
theorem PSs.imp {X : Cx} {e : List Stmt} {t t' : TS} (h : PSs X e t) (f : ∀ D σ H, t' D σ H → t D σ H) : PSs X e t' := ⟨fun p s σ H D I q => h.run p s σ H D I (f D σ H q)⟩

/-! how a mirror runs -/
abbrev M (α : Type) := S → Option (α × S)
def bindM {α β : Type} (m : M α) (f : α → M β) : M β := fun s => (m s).bind fun p => f p.1 p.2
def retM {α : Type} (a : α) : M α := fun s => some (a, s)
def optM {α : Type} (o : Option α) : M α := fun s => o.map fun a => (a, s)
theorem bindM_some {α β : Type} {m : M α} {f : α → M β} {s s' : S} {b : β} (h : bindM m f s = some (b, s')) : ∃ a s1, m s = some (a, s1) ∧ f a s1 = some (b, s') := by
  unfold bindM at h
  cases e : m s with
  | none => rw [e] at h; cases h
  | some p => rw [e] at h; exact ⟨p.1, p.2, rfl, h⟩
theorem optM_some {α : Type} {o : Option α} {s s' : S} {a : α} (h : optM o s = some (a, s')) : o = some a ∧ s' = s := by
  unfold optM at h
  cases o with
  | none => cases h
  | some b => cases h; exact ⟨rfl, rfl⟩

section
variable (K : PySem.W.Frag) (mg : Str → Option Value)
/-- a mirror's run from the state at hand, ending in data | in an object of its own | in a bool | in data, one by one | in a part of a slice -/
def tD (m : M D) : TE := fun σ H Q => ∃ sd W d sd', St K mg sd σ H W ∧ m sd = some (d, sd') ∧ ∀ v H' W', St K mg sd' σ H' W' → Kp sd σ H W sd' σ H' W' → DR K mg W' v d → Q v H'
def tO (m : M O) : TE := fun σ H Q => ∃ sd W o sd', St K mg sd σ H W ∧ m sd = some (o, sd') ∧ ∀ p H' W', St K mg sd' σ H' W' → Kp sd σ H W sd' σ H' W' → OR K mg H' W' p o → ¬ Own sd' σ p → H p = none → Q (.ref p) H'
def tB (m : M Bool) : TT := fun σ H Q => ∃ sd W d sd', St K mg sd σ H W ∧ m sd = some (d, sd') ∧ ∀ H' W', St K mg sd' σ H' W' → Kp sd σ H W sd' σ H' W' → Q d H'
def tL (m : M (List D)) : TA := fun σ H Q => ∃ sd W d sd', St K mg sd σ H W ∧ m sd = some (d, sd') ∧ ∀ v H' W', St K mg sd' σ H' W' → Kp sd σ H W sd' σ H' W' → DRs K mg W' v d → Q v H'
def tP (m : M (Option Int)) : TO := fun σ H Q => ∃ sd W d sd', St K mg sd σ H W ∧ m sd = some (d, sd') ∧ ∀ H' W', St K mg sd' σ H' W' → Kp sd σ H W sd' σ H' W' → Q d H'
end
abbrev DE (X : Cx) (e : Expr) (m : M D) : Prop := PE X e (tD X.K X.mg m)
abbrev OE (X : Cx) (e : Expr) (m : M O) : Prop := PE X e (tO X.K X.mg m)
abbrev BT (X : Cx) (e : Expr) (m : M Bool) : Prop := PT X e (tB X.K X.mg m)
abbrev BW (X : Cx) (e : Expr) (m : M Bool) : Prop := PW X e (tB X.K X.mg m)
abbrev LA (X : Cx) (es : List Expr) (m : M (List D)) : Prop := PA X es (tL X.K X.mg m)
abbrev IP (X : Cx) (e : Option Expr) (m : M (Option Int)) : Prop := PO X e (tP X.K X.mg m)

section
variable {K : PySem.W.Frag} {mg : Str → Option Value} {sd : S} {σ : L2.St} {H H' W W' : Hp}
/-- new things may come, seen or unseen, nothing else changes -/
theorem St.growN (h : St K mg sd σ H W) (a : Le W W') (b : Le W' H') (c : ∀ a o, H a = some o → nt o = true → H' a = some o) (th : ∀ a, H a ≠ none → H' a ≠ none) (n : ∀ a, W a = none → H a ≠ none → W' a = none) (tb : TabW H' W') : St K mg sd σ H' W' ∧ Kp sd σ H W sd σ H' W' := by
  refine ⟨⟨tb, b, h.len, fun i d e => ?_, fun i o e => ?_, h.inj⟩, ⟨a, fun p o q _ t => c p o q t, fun p q r _ => n p q r, fun p q => .inl q, th⟩⟩
  · obtain ⟨v, e1, r⟩ := h.dat i d e
    exact ⟨v, e1, r.le a⟩
  · obtain ⟨p, e1, w, r⟩ := h.own i o e
    cases o with
    | lst ds =>
      obtain ⟨vs, r1, r2⟩ := r
      exact ⟨p, e1, n p w (by rw [r1]; simp), vs, c _ _ r1 rfl, r2.le a⟩
    | obj cc fs =>
      obtain ⟨C, dx, gs, r0, r1, r2⟩ := r
      exact ⟨p, e1, n p w (by rw [r1]; simp), C, dx, gs, r0, c _ _ r1 rfl, r2.le a⟩
    | dic kvs =>
      obtain ⟨gs, r1, r2⟩ := r
      exact ⟨p, e1, n p w (by rw [r1]; simp), gs, c _ _ r1 rfl, r2.le a⟩
    | dit kvs =>
      obtain ⟨gs, r1, r2⟩ := r
      exact ⟨p, e1, n p w (by rw [r1]; simp), gs, c _ _ r1 rfl, r2.le a⟩
theorem St.grow (h : St K mg sd σ H W) (a : Le W W') (b : Le W' H') (c : Le H H') (hn : (∀ a ps, W a ≠ some (.tbl ps)) → ∀ a ps, W' a ≠ some (.tbl ps)) (n : ∀ a, W a = none → H a ≠ none → W' a = none) : St K mg sd σ H' W' ∧ Kp sd σ H W sd σ H' W' :=
  h.growN a b (fun p o q _ => c p o q) (fun p q => by
    cases e : H p with
    | none => exact absurd e q
    | some o => rw [c p o e]; simp) n (h.tabs.step hn (fun p ps e w => ⟨c p _ e, n p w (by rw [e]; simp)⟩) fun x q e => c _ _ e)
theorem St.free (h : St K mg sd σ H W) {p : Addr} (e : H p = none) : W p = none := by
  cases q : W p with
  | none => rfl
  | some o => rw [h.le p o q] at e; cases e
/-- one new thing, seen by all -/
theorem St.newV (h : St K mg sd σ H W) {p : Addr} (e : H p = none) (o : HO) (no : ∀ ps, o ≠ .tbl ps := by exact fun _ z => nomatch z) : St K mg sd σ (upd H p o) (upd W p o) ∧ Kp sd σ H W sd σ (upd H p o) (upd W p o) := by
  refine h.grow (Le.upd (h.free e)) (fun a u q => ?_) (Le.upd e) (upd_nt no) fun a q r => ?_
  · by_cases z : a = p
    · subst z; rw [upd_same] at q ⊢; exact q
    · rw [upd_ne z] at q ⊢; exact h.le a u q
  · have z : a ≠ p := fun z => r (z ▸ e)
    rw [upd_ne z]; exact q
/-- one new thing, not yet seen -/
theorem St.newO (h : St K mg sd σ H W) {p : Addr} (e : H p = none) (o : HO) : St K mg sd σ (upd H p o) W ∧ Kp sd σ H W sd σ (upd H p o) W :=
  h.grow (Le.refl _) (fun a u q => Le.upd e a u (h.le a u q)) (Le.upd e) (fun z => z) fun a q _ => q
theorem St.notOwn (h : St K mg sd σ H W) {p : Addr} (e : H p = none) : ¬ Own sd σ p := fun ⟨i, o, e1, e2⟩ => by
  obtain ⟨a, e3, w, r⟩ := h.own i o e1
  rw [e2] at e3; cases e3
  cases o with
  | lst ds => obtain ⟨vs, r1, _⟩ := r; rw [e] at r1; cases r1
  | obj cc fs => obtain ⟨C, dx, gs, _, r1, _⟩ := r; rw [e] at r1; cases r1
  | dic kvs => obtain ⟨gs, r1, _⟩ := r; rw [e] at r1; cases r1
  | dit kvs => obtain ⟨gs, r1, _⟩ := r; rw [e] at r1; cases r1
theorem Kp.fresh {sd' : S} {σ' : L2.St} (k : Kp sd σ H W sd' σ' H' W') {p : Addr} (e : H' p = none) : H p = none := by
  cases q : H p with
  | none => rfl
  | some o => exact absurd e (k.there p (by rw [q]; simp))
end

section
variable {X : Cx} {e a b c : Expr} {pos : Pos}
/-! freezing -/
theorem e_frz {m : M O} (h : OE X e m) : DE X e (bindM m fun o => retM o.d) := PE.imp h fun σ H Q ⟨sd, W, d, sd', st, em, q⟩ => by
  obtain ⟨o, s1, e1, e2⟩ := bindM_some em
  cases e2
  refine ⟨sd, W, o, sd', st, e1, fun p H' W' st' kp r no hp => ?_⟩
  obtain ⟨w, r⟩ := r
  have mk : ∀ u, H' p = some u → nt u = true → St X.K X.mg sd' σ H' (upd W' p u) ∧ Kp sd σ H W sd' σ H' (upd W' p u) := fun u hu nu => by
    refine ⟨⟨st'.tabs.step (upd_nt fun _ z => by rw [z] at nu; cases nu) (fun a ps e wa => ⟨e, by rw [upd_ne fun z => by rw [z, hu] at e; cases e; cases nu]; exact wa⟩) fun _ _ e => e, fun x y z => ?_, st'.len, fun i d ei => ?_, fun i o' ei => ?_, st'.inj⟩, ⟨kp.le.trans (Le.upd w), kp.keep, fun x y z n => ?_, kp.own, kp.there⟩⟩
    · by_cases h : x = p
      · subst h; rw [upd_same] at z; rw [← z]; exact hu
      · rw [upd_ne h] at z; exact st'.le x y z
    · obtain ⟨v, g, r⟩ := st'.dat i d ei
      exact ⟨v, g, r.le (Le.upd w)⟩
    · obtain ⟨x, g, w', r⟩ := st'.own i o' ei
      have ne : x ≠ p := fun z => no ⟨i, o', ei, z ▸ g⟩
      refine ⟨x, g, by rw [upd_ne ne]; exact w', ?_⟩
      cases o' with
      | lst ds => obtain ⟨vs, r1, r2⟩ := r; exact ⟨vs, r1, r2.le (Le.upd w)⟩
      | obj cc fs => obtain ⟨C, dx, gs, r0, r1, r2⟩ := r; exact ⟨C, dx, gs, r0, r1, r2.le (Le.upd w)⟩
      | dic kvs => obtain ⟨gs, r1, r2⟩ := r; exact ⟨gs, r1, r2.le (Le.upd w)⟩
      | dit kvs => obtain ⟨gs, r1, r2⟩ := r; exact ⟨gs, r1, r2.le (Le.upd w)⟩
    · have ne : x ≠ p := fun h => z (h ▸ hp)
      rw [upd_ne ne]; exact kp.new x y z n
  cases o with
  | lst ds =>
    obtain ⟨vs, r1, r2⟩ := r
    obtain ⟨g1, g2⟩ := mk _ r1 rfl
    exact q _ _ _ g1 g2 (.lst upd_same (r2.le (Le.upd w)))
  | obj cc fs =>
    obtain ⟨C, dx, gs, r0, r1, r2⟩ := r
    obtain ⟨g1, g2⟩ := mk _ r1 rfl
    exact q _ _ _ g1 g2 (.ins r0 upd_same (r2.le (Le.upd w)))
  | dic kvs =>
    obtain ⟨gs, r1, r2⟩ := r
    obtain ⟨g1, g2⟩ := mk _ r1 rfl
    exact q _ _ _ g1 g2 (.dic (.inl upd_same) (r2.le (Le.upd w)))
  | dit kvs =>
    obtain ⟨gs, r1, r2⟩ := r
    obtain ⟨g1, g2⟩ := mk _ r1 rfl
    exact q _ _ _ g1 g2 (.dit upd_same (r2.le (Le.upd w)))

/-! leaves -/
def mVar (i : Nat) : M D := fun s => match s[i]? with
  | some (some (.d d)) => some (d, s)
  | _ => none
theorem mVar_some {i : Nat} {s s' : S} {d : D} (h : mVar i s = some (d, s')) : s[i]? = some (some (.d d)) ∧ s' = s := by
  unfold mVar at h
  split at h
  · cases h; exact ⟨by assumption, rfl⟩
  · cases h
theorem e_var (i : Nat) {x : Str} (hN : X.N[i]? = some x := by rfl) (hv : Vis X.env.scope x := by first | exact Or.inl rfl | exact Or.inr (Or.inl rfl) | exact Or.inr (Or.inr rfl)) (hd : (x == ("__debug__" : Str)) = false := by decide)
    (hcd : (x == ("__classdict__" : Str)) = false := by decide) : DE X (.Name x pos) (mVar i) := PE.imp (pe_var (i := i) hN hv hd hcd) fun σ H Q ⟨sd, W, d, sd', st, em, q⟩ => by
  obtain ⟨e1, rfl⟩ := mVar_some em
  obtain ⟨v, e2, r⟩ := st.dat i d e1
  exact ⟨v, e2, q v H W st Kp.refl r⟩
theorem e_con {v : V} {d : D} (h : PE X e (tC v)) (r : ∀ W, DR X.K X.mg W v d) : DE X e (retM d) := PE.imp h fun σ H Q ⟨sd, W, d', sd', st, em, q⟩ => by
  cases em
  exact q v H W st Kp.refl (r W)
theorem e_int {i : Int} {j : Nat} : DE X (.Constant (.int i) j pos) (retM (.int i)) := e_con pe_int fun _ => .int i
theorem e_bl {i : Bool} {j : Nat} : DE X (.Constant (.bool i) j pos) (retM (.bl i)) := e_con pe_bl fun _ => .bl i
theorem e_non {j : Nat} : DE X (.Constant .none j pos) (retM .non) := e_con pe_non fun _ => .non
theorem e_str {i : Str} {j : Nat} : DE X (.Constant (.str i) j pos) (retM (.str i)) := e_con pe_str fun _ => .str i
theorem e_glob {x : Str} {v : V} {u : Value} {d : D} (hg : Gl X x) (hm : X.mg x = some u) (r : RelV v u) (rd : ∀ W, DR X.K X.mg W v d) (hd : (x == ("__debug__" : Str)) = false := by decide) : DE X (.Name x pos) (retM d) := e_con (pe_glob hg hm r hd) rd

/-! operators: what a rule on values gives, told by data -/
def R2D (K : PySem.W.Frag) (mg : Str → Option Value) (r : R2) (f : D → D → Option D) : Prop :=
  ∀ x y z vx vy sd σ H W, St K mg sd σ H W → DR K mg W vx x → DR K mg W vy y → f x y = some z → ∀ Q : VK, (∀ v H' W', St K mg sd σ H' W' → Kp sd σ H W sd σ H' W' → DR K mg W' v z → Q v H') → r vx vy H Q
/-- a rule that gives one value and leaves all as it is -/
theorem R2D.of {K : PySem.W.Frag} {mg : Str → Option Value} {r : R2} {f : D → D → Option D} (h : ∀ x y z vx vy H W, Le W H → DR K mg W vx x → DR K mg W vy y → f x y = some z → ∀ Q : VK, (∀ v, DR K mg W v z → Q v H) → r vx vy H Q) : R2D K mg r f :=
  fun x y z vx vy sd σ H W st hx hy hf Q q => h x y z vx vy H W st.le hx hy hf Q fun v hv => q v H W st Kp.refl hv
def mBin (f : D → D → Option D) (a b : M D) : M D := bindM a fun x => bindM b fun y => optM (f x y)
def mBinO (f : D → D → Option O) (a b : M D) : M O := bindM a fun x => bindM b fun y => optM (f x y)
theorem t_bin {K : PySem.W.Frag} {mg : Str → Option Value} {r : R2} {f : D → D → Option D} {ma mb : M D} (hr : R2D K mg r f) {σ : L2.St} {H : Hp} {Q : VK} (h : tD K mg (mBin f ma mb) σ H Q) : tOp r (tD K mg ma) (tD K mg mb) σ H Q := by
  obtain ⟨sd, W, d, sd', st, em, q⟩ := h
  obtain ⟨x, s1, e1, em⟩ := bindM_some em
  obtain ⟨y, s2, e2, em⟩ := bindM_some em
  obtain ⟨e3, rfl⟩ := optM_some em
  refine ⟨sd, W, x, s1, st, e1, fun v H1 W1 st1 k1 r1 => ⟨s1, W1, y, sd', st1, e2, fun u H2 W2 st2 k2 r2 => ?_⟩⟩
  exact hr x y d v u sd' σ H2 W2 st2 (r1.le k2.le) r2 e3 Q fun w H3 W3 st3 k3 r3 => q w H3 W3 st3 ((k1.trans k2).trans k3) r3
theorem e_op {op : Operator} {r : R2} {f : D → D → Option D} {ma mb : M D} (ho : OpR X (binaryOp op) r) (hr : R2D X.K X.mg r f) (ha : DE X a ma) (hb : DE X b mb) : DE X (.BinOp a op b pos) (mBin f ma mb) := PE.imp (pe_op ho ha hb) fun _ _ _ h => t_bin hr h
theorem e_cmp {op : CmpOp} {r : R2} {f : D → D → Option D} {ma mb : M D} (ho : OpR X (compareOp op) r) (hr : R2D X.K X.mg r f) (ha : DE X a ma) (hb : DE X b mb) (hm : behindInMarks op b = false) : DE X (.Compare a [op] [b] pos) (mBin f ma mb) := PE.imp (pe_cmpR ho ha hb hm) fun _ _ _ h => t_bin hr h
end
end Fli
set_option Elab.async false
set_option linter.all false
set_option maxRecDepth 100000
set_option maxHeartbeats 4000000
namespace Fli
open PySem L2
variable [HW]

/-! what operations give, on data -/
def sl : Nat := 16777216
def addD : D → D → Option D
  | .int a, .int b => some (.int (a + b))
  | .str a, .str b => if a.length + b.length ≤ sizeLine then some (.str (a ++ b)) else none
  | .tup as, .tup bs => if as.length + bs.length ≤ sizeLine then some (.tup (as ++ bs)) else none
  | _, _ => none
instance (a b : Int) : Decidable (CMul a b) := by unfold CMul; infer_instance
instance (a b : Int) : Decidable (CDivN a b) := by unfold CDivN; infer_instance
instance (a b : Int) : Decidable (CPow a b) := by unfold CPow; infer_instance
def mulD : D → D → Option D
  | .int a, .int b => if CMul a b then some (.int (a * b)) else none
  | _, _ => none
def divD : D → D → Option D
  | .int a, .int b => if CDivN a b then some (.int (a.fdiv b)) else none
  | _, _ => none
def modD : D → D → Option D
  | .int a, .int b => if b ≠ 0 then some (.int (a.fmod b)) else none
  | _, _ => none
def powD : D → D → Option D
  | .int a, .int b => if CPow a b then some (.int (a ^ b.toNat)) else none
  | _, _ => none
def cmpD (p : Int → Int → Bool) : D → D → Option D
  | .int a, .int b => some (.bl (p a b))
  | _, _ => none
def atD (x i : D) : Option D := match x, i with
  | .lst ds, .int i => atI ds i
  | .tup ds, .int i => atI ds i
  | .scr ns, .int i => (atI ns i).map .int
  | .str z, .int i => if z.length ≤ sizeLine then (atI z.cps.toList i).map fun c => .str ⟨#[c]⟩ else none
  | _, _ => none
def truD : D → Option Bool
  | .non => some false
  | .bl b => some b
  | .int i => some (i != 0)
  | .str z => if z.length ≤ sizeLine then some ((z.length : Int) != 0) else none
  | .tup ds => some !ds.isEmpty
  | .lst ds => some !ds.isEmpty
  | .scr ns => some !ns.isEmpty
  | .ins _ _ => none
  | .cls _ => none
  | .dic _ => none
  | .dit _ => none
  | .ptr _ => none
  | .exc _ _ _ => none
def notD : D → Option D := fun d => (truD d).map fun k => .bl !k
mutual
def toPy : D → Option PyData
  | .non => some .none
  | .bl b => some (.bool b)
  | .int i => some (.int i)
  | .str x => some (.str x)
  | .tup ds => (toPys ds).map .tuple
  | .lst ds => (toPys ds).map .list
  | .scr ns => some (.list (ns.map .int))
  | .ins _ _ => none
  | .cls _ => none
  | .dic _ => none
  | .dit _ => none
  | .ptr _ => none
  | .exc _ _ _ => none
def toPys : List D → Option (List PyData)
  | [] => some []
  | d :: ds => (toPy d).bind fun x => (toPys ds).map fun xs => x :: xs
end
def eqD (neg : Bool) (x y : D) : Option D := (toPy x).bind fun a => (toPy y).bind fun b => if SeqAt.shaped a = true ∧ SeqAt.shaped b = true then some (.bl (neg ^^ PyData.eqv a b)) else none
/-- flat data -/
def flD : D → Option V
  | .non => some .non
  | .bl b => some (.bl b)
  | .int i => some (.int i)
  | .str x => some (.str x)
  | _ => none
def flDs : List D → Option (List V)
  | [] => some []
  | d :: ds => (flD d).bind fun x => (flDs ds).map fun xs => x :: xs
def inD (neg : Bool) (x y : D) : Option D := match y with
  | .lst ds => (flD x).bind fun a => (flDs ds).map fun bs => .bl (neg ^^ inV a bs)
  | .tup ds => (flD x).bind fun a => (flDs ds).map fun bs => .bl (neg ^^ inV a bs)
  | .str z => match x with
    | .str c => if neg then none else some (.bl !(Builtin.Str.occurrences z c 0 z.length 1).isEmpty)
    | _ => none
  | _ => none
section
variable {K : PySem.W.Frag} {mg : Str → Option Value} {W : Hp}
theorem at_rs {vs : List V} {ds : List D} (r : DRs K mg W vs ds) {i : Int} {d : D} (h : atI ds i = some d) : ∃ v, atI vs i = some v ∧ DR K mg W v d := by
  unfold atI at h ⊢
  rw [r.len]
  cases e : ixN ds.length i with
  | none => rw [e] at h; cases h
  | some j =>
    rw [e] at h
    exact r.get h
theorem truV {v : V} {d : D} {k : Bool} {H : Hp} (e : Le W H) (r : DR K mg W v d) (h : truD d = some k) : TruV K v H k := by
  cases r with
  | non => cases h; rfl
  | bl b => cases h; rfl
  | int i => cases h; rfl
  | str x =>
    simp only [truD] at h
    split at h
    · cases h; exact ⟨by assumption, rfl⟩
    · cases h
  | tup s r => cases h; exact .inr (.inl ⟨_, st_le e s, by cases r <;> rfl⟩)
  | lst s r => cases h; exact .inl ⟨_, .inl (.inl (e _ _ s)), by cases r <;> rfl⟩
  | scr s =>
    rename_i a ns
    cases h; exact .inl ⟨_, sl_le e s, by cases ns <;> rfl⟩
  | ins _ _ _ => cases h
  | cls _ => cases h
  | dic _ _ => cases h
  | dit _ _ => cases h
  | ptr => cases h
  | exc _ _ => cases h
mutual
theorem toDp {H : Hp} (e : Le W H) : ∀ {v : V} {d : D} {p : PyData}, DR K mg W v d → toPy d = some p → Dp K H v p
  | _, _, _, .non, h => by cases h; exact .non
  | _, _, _, .bl b, h => by cases h; exact .bl b
  | _, _, _, .int i, h => by cases h; exact .int i
  | _, _, _, .str x, h => by cases h; exact .str x
  | _, .tup ds, p, .tup s r, h => by
    simp only [toPy, Option.map_eq_some_iff] at h
    obtain ⟨ps, h, rfl⟩ := h
    exact .tup (st_le e s) (toDps e r h)
  | _, .lst ds, p, .lst s r, h => by
    simp only [toPy, Option.map_eq_some_iff] at h
    obtain ⟨ps, h, rfl⟩ := h
    exact .lst (.inl (.inl (e _ _ s))) (toDps e r h)
  | _, .scr ns, p, .scr s, h => by
    cases h
    refine .lst (sl_le e s) ?_
    clear s
    induction ns with
    | nil => exact .nil
    | cons n ns ih => exact .cons (.int n) ih
  | _, _, _, .ins _ _ _, h => by cases h
  | _, _, _, .cls _, h => by cases h
  | _, _, _, .dic _ _, h => by cases h
  | _, _, _, .dit _ _, h => by cases h
  | _, _, _, .ptr, h => by cases h
  | _, _, _, .exc _ _, h => by cases h
theorem toDps {H : Hp} (e : Le W H) : ∀ {vs : List V} {ds : List D} {ps : List PyData}, DRs K mg W vs ds → toPys ds = some ps → DpAll K H vs ps
  | _, _, _, .nil, h => by cases h; exact .nil
  | _, d :: ds, ps, .cons r s, h => by
    simp only [toPys, Option.bind_eq_some_iff, Option.map_eq_some_iff] at h
    obtain ⟨x, h1, xs, h2, rfl⟩ := h
    exact .cons (toDp e r h1) (toDps e s h2)
end
theorem fl_v {v : V} {d : D} {x : V} (r : DR K mg W v d) (h : flD d = some x) : v = x ∧ flatV x = true := by
  cases r <;> cases h <;> exact ⟨rfl, rfl⟩
theorem fl_vs : ∀ {vs : List V} {ds : List D} {xs : List V}, DRs K mg W vs ds → flDs ds = some xs → vs = xs ∧ xs.all flatV = true
  | _, _, _, .nil, h => by cases h; exact ⟨rfl, rfl⟩
  | _, d :: ds, xs, .cons r s, h => by
    simp only [flDs, Option.bind_eq_some_iff, Option.map_eq_some_iff] at h
    obtain ⟨x, h1, ys, h2, rfl⟩ := h
    obtain ⟨rfl, a⟩ := fl_v r h1
    obtain ⟨rfl, b⟩ := fl_vs s h2
    exact ⟨rfl, by rw [List.all_cons, a, b]; rfl⟩
end

section
variable {X : Cx}
/-- a rule or another -/
def orR (r r' : R2) : R2 := fun x y H Q => r x y H Q ∨ r' x y H Q
theorem op_or {f : Value → Value → Sem Value} {r r' : R2} (h : OpR X f r) (h' : OpR X f r') : OpR X f (orR r r') := fun p s σ H x y v u Q I rx ry q => q.elim (h p s σ H x y v u Q I rx ry) (h' p s σ H x y v u Q I rx ry)
def rAddD (K : PySem.W.Frag) : R2 := orR (rI0 fun i j => V.int (i + j)) (orR (fun x y H Q => ∃ i j, x = V.str i ∧ y = V.str j ∧ i.length + j.length ≤ sizeLine ∧ Q (V.str (i ++ j)) H) (rCatF K))
theorem op_addA : OpR X (binaryOp .Add) (rAddD X.K) := op_or op_add (op_or op_add_str op_catF)
variable {K : PySem.W.Frag} {mg : Str → Option Value}
theorem rd_add : R2D K mg (rAddD K) addD := by
  intro x y z vx vy sd σ H W st hx hy hf Q q
  unfold addD at hf
  split at hf
  · cases hx; cases hy; cases hf
    exact .inl ⟨_, _, rfl, rfl, q _ H W st Kp.refl (.int _)⟩
  · cases hx; cases hy
    split at hf
    · rename_i h
      cases hf
      exact .inr (.inl ⟨_, _, rfl, rfl, h, q _ H W st Kp.refl (.str _)⟩)
    · cases hf
  · split at hf
    · rename_i h
      cases hf
      cases hx with
      | tup sx rx =>
        cases hy with
        | tup sy ry =>
          have l1 := rx.len
          have l2 := ry.len
          refine .inr (.inr ⟨_, _, _, _, rfl, rfl, st_le st.le sx, st_le st.le sy, by rw [l1, l2]; exact h, fun e => ?_, fun _ e => ?_, fun _ e p ob hp ho => ?_⟩)
          · subst e; cases rx
            exact q _ H W st Kp.refl (.tup sy ry)
          · subst e; cases ry
            refine q _ H W st Kp.refl (.tup sx ?_)
            rw [List.append_nil]; exact rx
          · obtain ⟨g1, g2⟩ := st.newV hp (.frz ob (.tup _))
            exact q _ _ _ g1 g2 (.tup (.inl ⟨ob, upd_same, ho⟩) ((rx.app ry).le (Le.upd (st.free hp))))
    · cases hf
  · cases hf
theorem rd_int {C : Int → Int → Prop} [∀ i j, Decidable (C i j)] {g : Int → Int → Int} : R2D K mg (rI C fun i j => V.int (g i j)) (fun x y => match x, y with | .int a, .int b => if C a b then some (.int (g a b)) else none | _, _ => none) := R2D.of fun x y z vx vy H W le hx hy hf Q q => by
  split at hf
  · split at hf <;> cases hf
    cases hx; cases hy
    exact ⟨_, _, rfl, rfl, by assumption, q _ (.int _)⟩
  · cases hf
theorem rd_mul : R2D K mg (rI CMul fun i j => V.int (i * j)) mulD := rd_int
theorem rd_div : R2D K mg (rI CDivN fun i j => V.int (i.fdiv j)) divD := rd_int
theorem rd_mod : R2D K mg (rI (fun _ j => j ≠ 0) fun i j => V.int (i.fmod j)) modD := rd_int
theorem rd_pow : R2D K mg (rI CPow fun i j => V.int (i ^ j.toNat)) powD := rd_int
theorem rd_cmp {p : Int → Int → Bool} : R2D K mg (rI0 fun i j => V.bl (p i j)) (cmpD p) := R2D.of fun x y z vx vy H W le hx hy hf Q q => by
  unfold cmpD at hf
  split at hf <;> cases hf
  cases hx; cases hy
  exact ⟨_, _, rfl, rfl, q _ (.bl _)⟩
theorem rd_at : R2D K mg (rIx K) atD := R2D.of fun x y z vx vy H W le hx hy hf Q q => by
  unfold atD at hf
  split at hf
  · cases hy
    cases hx with
    | lst s r =>
      obtain ⟨v, e, rv⟩ := at_rs r hf
      exact .inl ⟨_, _, _, v, rfl, rfl, .inl (.inl (le _ _ s)), e, q v rv⟩
  · cases hy
    cases hx with
    | tup s r =>
      obtain ⟨v, e, rv⟩ := at_rs r hf
      exact .inr (.inl ⟨_, _, _, v, rfl, rfl, st_le le s, e, q v rv⟩)
  · cases hy
    cases hx with
    | scr s =>
      rename_i ns i a
      simp only [Option.map_eq_some_iff] at hf
      obtain ⟨n, hf, rfl⟩ := hf
      refine .inl ⟨_, _, _, .int n, rfl, rfl, sl_le le s, ?_, q _ (.int n)⟩
      unfold atI at hf ⊢
      rw [List.length_map]
      cases e : ixN ns.length i with
      | none => rw [e] at hf; cases hf
      | some j =>
        rw [e] at hf
        have hf : ns[j]? = some n := hf
        show (ns.map V.int)[j]? = some (V.int n)
        rw [List.getElem?_map, hf]; rfl
  · cases hy
    cases hx
    split at hf
    · simp only [Option.map_eq_some_iff] at hf
      obtain ⟨c, hf, rfl⟩ := hf
      exact .inr (.inr ⟨_, _, c, rfl, rfl, by assumption, hf, q _ (.str _)⟩)
    · cases hf
  · cases hf
theorem rd_eq : R2D K mg (rEqD K) (eqD false) := R2D.of fun x y z vx vy H W le hx hy hf Q q => by
  simp only [eqD, Option.bind_eq_some_iff] at hf
  obtain ⟨a, ha, b, hb, hf⟩ := hf
  split at hf
  · rename_i h
    cases hf
    rw [Bool.false_xor] at q
    exact ⟨a, b, toDp le hx ha, toDp le hy hb, h.1, h.2, q _ (.bl _)⟩
  · cases hf
theorem rd_ne : R2D K mg (rNeD K) (eqD true) := R2D.of fun x y z vx vy H W le hx hy hf Q q => by
  simp only [eqD, Option.bind_eq_some_iff] at hf
  obtain ⟨a, ha, b, hb, hf⟩ := hf
  split at hf
  · rename_i h
    cases hf
    rw [Bool.true_xor] at q
    exact ⟨a, b, toDp le hx ha, toDp le hy hb, h.1, h.2, q _ (.bl _)⟩
  · cases hf
def rInD (K : PySem.W.Frag) : R2 := orR (rIn K false) fun x y H Q => ∃ i j, x = V.str i ∧ y = V.str j ∧ Q (V.bl !(Builtin.Str.occurrences j i 0 j.length 1).isEmpty) H
theorem op_inA : OpR X (compareOp .In) (rInD X.K) := op_or op_in_seq op_in_str
theorem rd_in : R2D K mg (rInD K) (inD false) := R2D.of fun x y z vx vy H W le hx hy hf Q q => by
  unfold inD at hf
  split at hf
  · simp only [Option.bind_eq_some_iff, Option.map_eq_some_iff] at hf
    obtain ⟨a, ha, bs, hb, rfl⟩ := hf
    cases hy with
    | lst s r =>
      obtain ⟨rfl, h1⟩ := fl_v hx ha
      obtain ⟨rfl, h2⟩ := fl_vs r hb
      exact .inl ⟨_, _, rfl, .inl (.inl (.inl (le _ _ s))), h1, h2, by simpa using q _ (.bl _)⟩
  · simp only [Option.bind_eq_some_iff, Option.map_eq_some_iff] at hf
    obtain ⟨a, ha, bs, hb, rfl⟩ := hf
    cases hy with
    | tup s r =>
      obtain ⟨rfl, h1⟩ := fl_v hx ha
      obtain ⟨rfl, h2⟩ := fl_vs r hb
      exact .inl ⟨_, _, rfl, .inr (st_le le s), h1, h2, by simpa using q _ (.bl _)⟩
  · split at hf
    · cases hf
      cases hx; cases hy
      exact .inr ⟨_, _, rfl, rfl, q _ (.bl _)⟩
    · cases hf
  · cases hf
theorem rd_nin : R2D K mg (rIn K true) (fun x y => match y with | .str _ => none | _ => inD true x y) := R2D.of fun x y z vx vy H W le hx hy hf Q q => by
  split at hf
  · cases hf
  · unfold inD at hf
    split at hf
    · simp only [Option.bind_eq_some_iff, Option.map_eq_some_iff] at hf
      obtain ⟨a, ha, bs, hb, rfl⟩ := hf
      cases hy with
      | lst s r =>
        obtain ⟨rfl, h1⟩ := fl_v hx ha
        obtain ⟨rfl, h2⟩ := fl_vs r hb
        exact ⟨_, _, rfl, .inl (.inl (.inl (le _ _ s))), h1, h2, by simpa using q _ (.bl _)⟩
    · simp only [Option.bind_eq_some_iff, Option.map_eq_some_iff] at hf
      obtain ⟨a, ha, bs, hb, rfl⟩ := hf
      cases hy with
      | tup s r =>
        obtain ⟨rfl, h1⟩ := fl_v hx ha
        obtain ⟨rfl, h2⟩ := fl_vs r hb
        exact ⟨_, _, rfl, .inr (st_le le s), h1, h2, by simpa using q _ (.bl _)⟩
    · split at hf
      · cases hf
      · cases hf
    · cases hf
end
end Fli
set_option Elab.async false
set_option linter.all false
set_option maxRecDepth 100000
set_option maxHeartbeats 4000000
namespace Fli
open PySem L2
variable [HW]

section
variable {X : Cx} {e a b c : Expr} {es : List Expr} {pos : Pos}
/-! truth, tests, choice -/
theorem b_tru {m : M D} (h : DE X e m) (he : ∀ whole, isTrue e X.env whole = (do let v ← whole; standAt e.pos; holding [v] (truthy v)) := by intro _; rfl) : BT X e (bindM m fun d => optM (truD d)) := PT.imp (pt_truth h he) fun σ H Q ⟨sd, W, k, sd', st, em, q⟩ => by
  obtain ⟨d, s1, e1, em⟩ := bindM_some em
  obtain ⟨e2, rfl⟩ := optM_some em
  exact ⟨sd, W, d, sd', st, e1, fun v H1 W1 st1 k1 r => ⟨k, truV st1.le r e2, q H1 W1 st1 k1⟩⟩
theorem b_not {m : M Bool} (h : BT X e m) : BT X (.UnaryOp .Not e pos) (bindM m fun k => retM !k) := PT.imp (pt_not h) fun σ H Q ⟨sd, W, k, sd', st, em, q⟩ => by
  obtain ⟨d, s1, e1, em⟩ := bindM_some em
  cases em
  exact ⟨sd, W, d, sd', st, e1, q⟩
def andB (a b : M Bool) : M Bool := bindM a fun k => match k with | true => b | false => retM false
def orB (a b : M Bool) : M Bool := bindM a fun k => match k with | true => retM true | false => b
theorem bw_o1 {m : M Bool} (h : BT X e m) : BW X (.BoolOp .Or [e] pos) m := pw_or1 h
theorem bw_a1 {m : M Bool} (h : BT X e m) : BW X (.BoolOp .And [e] pos) m := pw_and1 h
theorem bw_and {ma mb : M Bool} {rest : List Expr} (ha : BT X a ma) (hb : BW X (.BoolOp .And (b :: rest) pos) mb) : BW X (.BoolOp .And (a :: b :: rest) pos) (andB ma mb) := PW.imp (pw_and ha hb) fun σ H Q ⟨sd, W, k, sd', st, em, q⟩ => by
  obtain ⟨x, s1, e1, em⟩ := bindM_some em
  refine ⟨sd, W, x, s1, st, e1, fun H1 W1 st1 k1 => ?_⟩
  cases x with
  | true => rw [if_pos rfl]; exact ⟨s1, W1, k, sd', st1, em, fun H2 W2 st2 k2 => q H2 W2 st2 (k1.trans k2)⟩
  | false => cases em; rw [if_neg (by simp)]; exact q H1 W1 st1 k1
theorem bw_or {ma mb : M Bool} {rest : List Expr} (ha : BT X a ma) (hb : BW X (.BoolOp .Or (b :: rest) pos) mb) : BW X (.BoolOp .Or (a :: b :: rest) pos) (orB ma mb) := PW.imp (pw_or ha hb) fun σ H Q ⟨sd, W, k, sd', st, em, q⟩ => by
  obtain ⟨x, s1, e1, em⟩ := bindM_some em
  refine ⟨sd, W, x, s1, st, e1, fun H1 W1 st1 k1 => ?_⟩
  cases x with
  | false => rw [if_neg (by simp)]; exact ⟨s1, W1, k, sd', st1, em, fun H2 W2 st2 k2 => q H2 W2 st2 (k1.trans k2)⟩
  | true => cases em; rw [if_pos rfl]; exact q H1 W1 st1 k1
theorem b_w {m : M Bool} (h : BW X e m) : BT X e m := h.pt
/-- not, and, or as values -/
theorem e_not {m : M D} (h : DE X e m) : DE X (.UnaryOp .Not e pos) (bindM m fun d => optM (notD d)) := PE.imp (pe_notT h) fun σ H Q ⟨sd, W, k, sd', st, em, q⟩ => by
  obtain ⟨d, s1, e1, em⟩ := bindM_some em
  obtain ⟨e2, rfl⟩ := optM_some em
  simp only [notD, Option.map_eq_some_iff] at e2
  obtain ⟨t, e2, rfl⟩ := e2
  exact ⟨sd, W, d, sd', st, e1, fun v H1 W1 st1 k1 r => ⟨t, truV st1.le r e2, q _ H1 W1 st1 k1 (.bl _)⟩⟩
def andV (a b : M D) : M D := bindM a fun x => bindM (optM (truD x)) fun k => match k with | true => b | false => retM x
def orV (a b : M D) : M D := bindM a fun x => bindM (optM (truD x)) fun k => match k with | true => retM x | false => b
theorem e_1 {op : BoolOp} {m : M D} (h : DE X e m) : DE X (.BoolOp op [e] pos) m := pe_one h
theorem e_and {ma mb : M D} {rest : List Expr} (ha : DE X a ma) (hb : DE X (.BoolOp .And (b :: rest) pos) mb) : DE X (.BoolOp .And (a :: b :: rest) pos) (andV ma mb) := PE.imp (pe_andT ha hb) fun σ H Q ⟨sd, W, z, sd', st, em, q⟩ => by
  obtain ⟨x, s1, e1, em⟩ := bindM_some em
  obtain ⟨k, s2, e2, em⟩ := bindM_some em
  obtain ⟨h2, rfl⟩ := optM_some e2
  refine ⟨sd, W, x, s2, st, e1, fun v H1 W1 st1 k1 r => ⟨k, truV st1.le r h2, ?_⟩⟩
  cases k with
  | true => rw [if_pos rfl]; exact ⟨s2, W1, z, sd', st1, em, fun v H2 W2 st2 k2 r2 => q v H2 W2 st2 (k1.trans k2) r2⟩
  | false => cases em; rw [if_neg (by simp)]; exact q v H1 W1 st1 k1 r
theorem e_or {ma mb : M D} {rest : List Expr} (ha : DE X a ma) (hb : DE X (.BoolOp .Or (b :: rest) pos) mb) : DE X (.BoolOp .Or (a :: b :: rest) pos) (orV ma mb) := PE.imp (pe_orT ha hb) fun σ H Q ⟨sd, W, z, sd', st, em, q⟩ => by
  obtain ⟨x, s1, e1, em⟩ := bindM_some em
  obtain ⟨k, s2, e2, em⟩ := bindM_some em
  obtain ⟨h2, rfl⟩ := optM_some e2
  refine ⟨sd, W, x, s2, st, e1, fun v H1 W1 st1 k1 r => ⟨k, truV st1.le r h2, ?_⟩⟩
  cases k with
  | false => rw [if_neg (by simp)]; exact ⟨s2, W1, z, sd', st1, em, fun v H2 W2 st2 k2 r2 => q v H2 W2 st2 (k1.trans k2) r2⟩
  | true => cases em; rw [if_pos rfl]; exact q v H1 W1 st1 k1 r
def ifM {α : Type} (c : M Bool) (a b : M α) : M α := bindM c fun k => match k with | true => a | false => b
theorem e_if {mc : M Bool} {ma mb : M D} (hc : BT X c mc) (ha : DE X a ma) (hb : DE X b mb) : DE X (.IfExp c a b pos) (ifM mc ma mb) := PE.imp (pe_ifExp hc ha hb) fun σ H Q ⟨sd, W, z, sd', st, em, q⟩ => by
  obtain ⟨k, s1, e1, em⟩ := bindM_some em
  refine ⟨sd, W, k, s1, st, e1, fun H1 W1 st1 k1 => ?_⟩
  cases k with
  | true => rw [if_pos rfl]; exact ⟨s1, W1, z, sd', st1, em, fun v H2 W2 st2 k2 r2 => q v H2 W2 st2 (k1.trans k2) r2⟩
  | false => rw [if_neg (by simp)]; exact ⟨s1, W1, z, sd', st1, em, fun v H2 W2 st2 k2 r2 => q v H2 W2 st2 (k1.trans k2) r2⟩
/-- a chain of two comparisons -/
def chM (f g : D → D → Option D) (a b c : M D) : M D := bindM a fun x => bindM b fun y => bindM (optM (f x y)) fun k => match k with | .bl true => bindM c fun z => optM (g y z) | .bl false => retM (.bl false) | _ => fun _ => none
theorem t_chain {K : PySem.W.Frag} {mg : Str → Option Value} {r r' : R2} {f g : D → D → Option D} {ma mb mc : M D} (hr : R2D K mg r f) (hr' : R2D K mg r' g) {σ : L2.St} {H : Hp} {Q : VK} (h : tD K mg (chM f g ma mb mc) σ H Q) : tChain r r' (tD K mg ma) (tD K mg mb) (tD K mg mc) σ H Q := by
  obtain ⟨sd, W, d, sd', st, em, q⟩ := h
  obtain ⟨x, s1, e1, em⟩ := bindM_some em
  obtain ⟨y, s2, e2, em⟩ := bindM_some em
  obtain ⟨k, s3, e3, em⟩ := bindM_some em
  obtain ⟨h3, rfl⟩ := optM_some e3
  refine ⟨sd, W, x, s1, st, e1, fun v H1 W1 st1 k1 r1 => ⟨s1, W1, y, s3, st1, e2, fun u H2 W2 st2 k2 r2 => ?_⟩⟩
  refine hr x y k v u s3 σ H2 W2 st2 (r1.le k2.le) r2 h3 _ fun w H3 W3 st3 k3 r3 => ?_
  cases k with
  | bl t =>
    cases r3
    refine ⟨t, rfl, ?_⟩
    cases t with
    | true =>
      obtain ⟨z, s4, e4, em⟩ := bindM_some em
      obtain ⟨e5, rfl⟩ := optM_some em
      rw [if_pos rfl]
      exact ⟨s3, W3, z, sd', st3, e4, fun w H4 W4 st4 k4 r4 => hr' y z d u w sd' σ H4 W4 st4 ((r2.le k3.le).le k4.le) r4 e5 Q fun p H5 W5 st5 k5 r5 => q p H5 W5 st5 ((((k1.trans k2).trans k3).trans k4).trans k5) r5⟩
    | false => cases em; rw [if_neg (by simp)]; exact q _ H3 W3 st3 ((k1.trans k2).trans k3) (.bl _)
  | _ => cases em
theorem e_chain {op op' : CmpOp} {r r' : R2} {f g : D → D → Option D} {ma mb mc : M D} (ho : OpR X (compareOp op) r) (ho' : OpR X (compareOp op') r') (hr : R2D X.K X.mg r f) (hr' : R2D X.K X.mg r' g) (ha : DE X a ma) (hb : DE X b mb) (hc : DE X c mc)
    (hm : lastMarks [op, op'] [b, c] = false := by rfl) : DE X (.Compare a [op, op'] [b, c] pos) (chM f g ma mb mc) := PE.imp (pe_chain ho ho' ha hb hc hm) fun _ _ _ h => t_chain hr hr' h
/-! subscripts -/
theorem e_ix {ma mb : M D} (ha : DE X a ma) (hb : DE X b mb) (hs : PlainIx b := by exact fun _ _ => rfl) : DE X (.Subscript a b pos) (mBin atD ma mb) := PE.imp (pe_ix ix_seq ha hb hs) fun _ _ _ h => t_bin rd_at h
/-! displays, arguments -/
theorem la_nil : LA X [] (retM []) := PA.imp pa_nil fun σ H Q ⟨sd, W, d, sd', st, em, q⟩ => by
  cases em
  exact q _ H W st Kp.refl .nil
theorem la_cons {m : M D} {ms : M (List D)} (h : DE X e m) (hs : LA X es ms) (he : starEach (e :: es) X.env = (false, eval e X.env) :: starEach es X.env := by rfl) : LA X (e :: es) (bindM m fun d => bindM ms fun ds => retM (d :: ds)) := PA.imp (pa_cons h hs he) fun σ H Q ⟨sd, W, d, sd', st, em, q⟩ => by
  obtain ⟨x, s1, e1, em⟩ := bindM_some em
  obtain ⟨xs, s2, e2, em⟩ := bindM_some em
  cases em
  exact ⟨sd, W, x, s1, st, e1, fun v H1 W1 st1 k1 r1 => ⟨s1, W1, xs, sd', st1, e2, fun vs H2 W2 st2 k2 r2 => q _ H2 W2 st2 (k1.trans k2) (.cons (r1.le k2.le) r2)⟩⟩
def tupM (ds : List D) : Option D := if ds.length ≤ sizeLine then some (.tup ds) else none
def lstM (ds : List D) : Option O := if ds.length ≤ sizeLine then some (.lst ds) else none
theorem e_tup {ms : M (List D)} {k : Nat} (hs : LA X es ms) : DE X (.Tuple es k pos) (bindM ms fun ds => optM (tupM ds)) := PE.imp (pe_tupF hs) fun σ H Q ⟨sd, W, d, sd', st, em, q⟩ => by
  obtain ⟨xs, s1, e1, em⟩ := bindM_some em
  obtain ⟨e2, rfl⟩ := optM_some em
  unfold tupM at e2
  split at e2 <;> cases e2
  refine ⟨sd, W, xs, sd', st, e1, fun vs H1 W1 st1 k1 r1 => ⟨by rw [r1.len]; assumption, fun p ob hp ho => ?_⟩⟩
  obtain ⟨g1, g2⟩ := st1.newV hp (.frz ob (.tup vs))
  exact q _ _ _ g1 (k1.trans g2) (.tup (.inl ⟨ob, upd_same, ho⟩) (r1.le (Le.upd (st1.free hp))))
theorem o_lst {ms : M (List D)} (hs : LA X es ms) : OE X (.List es pos) (bindM ms fun ds => optM (lstM ds)) := PE.imp (pe_lst hs) fun σ H Q ⟨sd, W, d, sd', st, em, q⟩ => by
  obtain ⟨xs, s1, e1, em⟩ := bindM_some em
  obtain ⟨e2, rfl⟩ := optM_some em
  unfold lstM at e2
  split at e2 <;> cases e2
  refine ⟨sd, W, xs, sd', st, e1, fun vs H1 W1 st1 k1 r1 => ⟨by rw [r1.len]; assumption, fun p hp => ?_⟩⟩
  obtain ⟨g1, g2⟩ := st1.newO hp (.lst vs)
  exact q _ _ _ g1 (k1.trans g2) ⟨st1.free hp, vs, upd_same, r1⟩ (st1.notOwn hp) (k1.fresh hp)
/-! slices -/
theorem ip_none : IP X none (retM none) := PO.imp po_none fun σ H Q ⟨sd, W, d, sd', st, em, q⟩ => by
  cases em
  exact q H W st Kp.refl
def intD : D → Option Int
  | .int i => some i
  | _ => none
theorem ip_some {m : M D} (h : DE X e m) : IP X (some e) (bindM m fun d => optM ((intD d).map some)) := PO.imp (po_some h) fun σ H Q ⟨sd, W, d, sd', st, em, q⟩ => by
  obtain ⟨x, s1, e1, em⟩ := bindM_some em
  obtain ⟨e2, rfl⟩ := optM_some em
  refine ⟨sd, W, x, sd', st, e1, fun v H1 W1 st1 k1 r => ?_⟩
  cases x <;> cases e2
  cases r
  exact ⟨_, rfl, q H1 W1 st1 k1⟩
def cutD {α : Type} (xs : List α) (lo hi : Option Int) : List α := (xs.drop (HT.sIx xs.length 0 lo)).take (HT.sIx xs.length xs.length hi - HT.sIx xs.length 0 lo)
section
variable {K : PySem.W.Frag} {mg : Str → Option Value}
theorem cut_rs {W : Hp} {vs : List V} {ds : List D} (r : DRs K mg W vs ds) {lo hi : Option Int} : DRs K mg W (cutV vs lo hi) (cutD ds lo hi) := by
  unfold cutV cutD
  rw [r.len]
  exact (r.drop _).take _
theorem ints_rs {W : Hp} : ∀ {ns : List Int}, DRs K mg W (ns.map V.int) (ns.map D.int)
  | [] => .nil
  | _ :: _ => .cons (.int _) ints_rs
end
def slM {α : Type} (f : D → Option Int → Option Int → Option α) (a : M D) (l h : M (Option Int)) : M α := bindM a fun x => bindM l fun lo => bindM h fun hi => optM (f x lo hi)
end
end Fli
set_option Elab.async false
set_option linter.all false
set_option maxRecDepth 100000
set_option maxHeartbeats 4000000
namespace Fli
open PySem L2
variable [HW]

theorem bindO_some {α β : Type} {o : Option α} {f : α → M β} {s s' : S} {b : β} (h : bindM (optM o) f s = some (b, s')) : ∃ a, o = some a ∧ f a s = some (b, s') := by
  obtain ⟨a, s1, e1, h⟩ := bindM_some h
  obtain ⟨e2, z⟩ := optM_some e1
  rw [z] at h
  exact ⟨a, e2, h⟩
/-! slots that hold an object of their own: read in passing -/
def mLs (i : Nat) : M (List D) := fun s => match s[i]? with
  | some (some (.own (.lst ds))) => some (ds, s)
  | some (some (.d (.lst ds))) => some (ds, s)
  | _ => none
section
variable {K : PySem.W.Frag} {mg : Str → Option Value} {sd s' : S} {σ : L2.St} {H H' W W' : Hp}
theorem mLs_at {i : Nat} {ds : List D} (st : St K mg sd σ H W) (h : mLs i sd = some (ds, s')) : s' = sd ∧ ∃ a vs, σ[i]? = some (some (.ref a)) ∧ H a = some (.lst vs) ∧ DRs K mg W vs ds := by
  unfold mLs at h
  split at h
  · rename_i ds' e
    cases h
    obtain ⟨a, e1, w, vs, e2, r⟩ := st.own i _ e
    exact ⟨rfl, a, vs, e1, e2, r⟩
  · rename_i ds' e
    cases h
    obtain ⟨v, e1, r⟩ := st.dat i _ e
    cases r with
    | lst s r => exact ⟨rfl, _, _, e1, st.le _ _ s, r⟩
  · cases h
/-- a slot's own list is changed -/
def mOwn (i : Nat) : M (List D) := fun s => match s[i]? with
  | some (some (.own (.lst ds))) => some (ds, s)
  | _ => none
def mPut (i : Nat) (ds : List D) : M Unit := fun s => some ((), s.set i (some (.own (.lst ds))))
theorem mOwn_at {i : Nat} {ds : List D} (st : St K mg sd σ H W) (h : mOwn i sd = some (ds, s')) : s' = sd ∧ sd[i]? = some (some (.own (.lst ds))) ∧ ∃ a vs, σ[i]? = some (some (.ref a)) ∧ W a = none ∧ H a = some (.lst vs) ∧ DRs K mg W vs ds := by
  unfold mOwn at h
  split at h
  · rename_i ds' e
    cases h
    obtain ⟨a, e1, w, vs, e2, r⟩ := st.own i _ e
    exact ⟨rfl, e, a, vs, e1, w, e2, r⟩
  · cases h
theorem St.put {i : Nat} {a : Addr} {o : O} {ho : HO} (st : St K mg sd σ H W) (e : sd[i]? = some (some (.own o))) (ea : σ[i]? = some (some (.ref a))) (w : W a = none) {o' : O} (r : OR K mg (upd H a ho) W a o') :
    St K mg (sd.set i (some (.own o'))) σ (upd H a ho) W ∧ Kp sd σ H W (sd.set i (some (.own o'))) σ (upd H a ho) W := by
  have hi : i < sd.length := (List.getElem?_eq_some_iff.mp e).1
  have ow : Own sd σ a := ⟨i, o, e, ea⟩
  have back : ∀ (j : Nat) (u : O), (sd.set i (some (A.own o')))[j]? = some (some (A.own u)) → ∃ u', sd[j]? = some (some (A.own u')) := fun j u h => by
    by_cases z : i = j
    · subst z; exact ⟨o, e⟩
    · rw [List.getElem?_set_ne z] at h; exact ⟨u, h⟩
  have na : ∀ u, H a = some u → mt u := fun u => by
    obtain ⟨a', q1, q2⟩ := st.own i o e
    rw [ea] at q1; cases q1
    exact q2.mt u
  refine ⟨⟨st.tabs.upd na, fun x y z => ?_, by rw [List.length_set]; exact st.len, fun j d h => ?_, fun j u h => ?_, fun j k u u' x h1 h2 => ?_⟩, ⟨Le.refl _, fun x u h n _ => ?_, fun x h _ _ => h, fun x ⟨j, u, h1, h2⟩ => ?_, fun x h => ?_⟩⟩
  · have ne : x ≠ a := ne_of_none z w
    rw [upd_ne ne]; exact st.le x y z
  · have ne : i ≠ j := fun z => by subst z; rw [List.getElem?_set_self hi] at h; cases h
    rw [List.getElem?_set_ne ne] at h
    exact st.dat j d h
  · by_cases z : i = j
    · subst z
      rw [List.getElem?_set_self hi] at h; cases h
      exact ⟨a, ea, r⟩
    · rw [List.getElem?_set_ne z] at h
      obtain ⟨x, e1, w1, r1⟩ := st.own j u h
      have ne : x ≠ a := fun q => z (st.inj i j o u a e h ea (q ▸ e1))
      refine ⟨x, e1, w1, ?_⟩
      rw [upd_ne ne]; exact r1
  · obtain ⟨v, h1⟩ := back j u h1
    obtain ⟨v', h2⟩ := back k u' h2
    exact st.inj j k v v' x h1 h2
  · have ne : x ≠ a := fun z => n (z ▸ ow)
    rw [upd_ne ne]; exact h
  · obtain ⟨v, h1⟩ := back j u h1
    exact .inl ⟨j, v, h1, h2⟩
  · by_cases z : x = a
    · subst z; rw [upd_same]; simp
    · rw [upd_ne z]; exact h
end

/-! built-in functions -/
def C1D (K : PySem.W.Frag) (mg : Str → Option Value) (r : List V → Hp → VK → Prop) (f : List D → Option D) : Prop :=
  ∀ xs z vs sd σ H W, St K mg sd σ H W → DRs K mg W vs xs → f xs = some z → ∀ Q : VK, (∀ v H' W', St K mg sd σ H' W' → Kp sd σ H W sd σ H' W' → DR K mg W' v z → Q v H') → r vs H Q
def C1O (K : PySem.W.Frag) (mg : Str → Option Value) (r : List V → Hp → VK → Prop) (f : List D → Option O) : Prop :=
  ∀ xs z vs sd σ H W, St K mg sd σ H W → DRs K mg W vs xs → f xs = some z → ∀ Q : VK, (∀ p H' W', St K mg sd σ H' W' → Kp sd σ H W sd σ H' W' → OR K mg H' W' p z → H p = none → Q (.ref p) H') → r vs H Q
def lenD : List D → Option D
  | [.lst ds] => some (.int ds.length)
  | [.tup ds] => some (.int ds.length)
  | [.scr ns] => some (.int ns.length)
  | [.str z] => if z.length ≤ sizeLine then some (.int z.length) else none
  | _ => none
def absD : List D → Option D
  | [.int i] => some (.int (if i < 0 then -i else i))
  | _ => none
def intcD : List D → Option D
  | [.int i] => some (.int i)
  | [.bl b] => some (.int (if b = true then 1 else 0))
  | _ => none
def maxD : List D → Option D
  | [.int i, .int j] => some (.int (if j > i then j else i))
  | _ => none
def minD : List D → Option D
  | [.int i, .int j] => some (.int (if j < i then j else i))
  | _ => none
def tupcD : List D → Option D
  | [.lst ds] => some (.tup ds)
  | [.tup ds] => some (.tup ds)
  | _ => none
def lstcD : List D → Option O
  | [.lst ds] => some (.lst ds)
  | [.tup ds] => some (.lst ds)
  | [.scr ns] => some (.lst (ns.map .int))
  | _ => none
def blsD : List D → Option (List Bool)
  | [] => some []
  | .bl b :: ds => (blsD ds).map (b :: ·)
  | _ => none
def allD : List D → Option D
  | [.lst ds] => (blsD ds).map fun bs => .bl (bs.all id)
  | _ => none
section
variable {K : PySem.W.Frag} {mg : Str → Option Value}
theorem C1D.of {r : List V → Hp → VK → Prop} {f : List D → Option D} (h : ∀ xs z vs H W, Le W H → DRs K mg W vs xs → f xs = some z → ∀ Q : VK, (∀ v, DR K mg W v z → Q v H) → r vs H Q) : C1D K mg r f :=
  fun xs z vs sd σ H W st hx hf Q q => h xs z vs H W st.le hx hf Q fun v hv => q v H W st Kp.refl hv
theorem cd_len : C1D K mg (fun xs H Q => ∃ x n, xs = [x] ∧ LenV K x H n ∧ Q (V.int ↑n) H) lenD := C1D.of fun xs z vs H W le hx hf Q q => by
  unfold lenD at hf
  split at hf
  · cases hf
    cases hx with
    | cons h1 h2 =>
      cases h2
      cases h1 with
      | lst s r => exact ⟨_, _, rfl, .inl ⟨_, .inl (.inl (le _ _ s)), r.len.symm⟩, q _ (.int _)⟩
  · cases hf
    cases hx with
    | cons h1 h2 =>
      cases h2
      cases h1 with
      | tup s r => exact ⟨_, _, rfl, .inr ⟨_, st_le le s, r.len.symm⟩, q _ (.int _)⟩
  · cases hf
    cases hx with
    | cons h1 h2 =>
      cases h2
      cases h1 with
      | scr s => exact ⟨_, _, rfl, .inl ⟨_, sl_le le s, by rw [List.length_map]⟩, q _ (.int _)⟩
  · split at hf
    · cases hf
      cases hx with
      | cons h1 h2 =>
        cases h2
        cases h1
        exact ⟨_, _, rfl, ⟨by assumption, rfl⟩, q _ (.int _)⟩
    · cases hf
  · cases hf
theorem cd_abs : C1D K mg (fun xs H Q => ∃ i, xs = [V.int i] ∧ Q (V.int (if i < 0 then -i else i)) H) absD := C1D.of fun xs z vs H W le hx hf Q q => by
  unfold absD at hf
  split at hf <;> cases hf
  cases hx with
  | cons h1 h2 => cases h2; cases h1; exact ⟨_, rfl, q _ (.int _)⟩
theorem cd_int : C1D K mg (fun xs H Q => (∃ i, xs = [V.int i] ∧ Q (V.int i) H) ∨ ∃ k, xs = [V.bl k] ∧ Q (V.int (if k = true then 1 else 0)) H) intcD := C1D.of fun xs z vs H W le hx hf Q q => by
  unfold intcD at hf
  split at hf <;> cases hf
  · cases hx with
    | cons h1 h2 => cases h2; cases h1; exact .inl ⟨_, rfl, q _ (.int _)⟩
  · cases hx with
    | cons h1 h2 => cases h2; cases h1; exact .inr ⟨_, rfl, q _ (.int _)⟩
theorem cd_max : C1D K mg (fun xs H Q => ∃ i j, xs = [V.int i, V.int j] ∧ Q (V.int (if j > i then j else i)) H) maxD := C1D.of fun xs z vs H W le hx hf Q q => by
  unfold maxD at hf
  split at hf <;> cases hf
  cases hx with
  | cons h1 h2 => cases h2 with
    | cons h2 h3 => cases h3; cases h1; cases h2; exact ⟨_, _, rfl, q _ (.int _)⟩
theorem cd_min : C1D K mg (fun xs H Q => ∃ i j, xs = [V.int i, V.int j] ∧ Q (V.int (if j < i then j else i)) H) minD := C1D.of fun xs z vs H W le hx hf Q q => by
  unfold minD at hf
  split at hf <;> cases hf
  cases hx with
  | cons h1 h2 => cases h2 with
    | cons h2 h3 => cases h3; cases h1; cases h2; exact ⟨_, _, rfl, q _ (.int _)⟩
theorem cd_tup : C1D K mg (rTupF K) tupcD := fun xs z vs sd σ H W st hx hf Q q => by
  unfold tupcD at hf
  split at hf <;> cases hf
  · cases hx with
    | cons h1 h2 =>
      cases h2
      cases h1 with
      | lst s r =>
        refine ⟨_, _, rfl, .inl ⟨.inl (.inl (st.le _ _ s)), fun p ob hp ho => ?_⟩⟩
        obtain ⟨g1, g2⟩ := st.newV hp (.frz ob (.tup _))
        exact q _ _ _ g1 g2 (.tup (.inl ⟨ob, upd_same, ho⟩) (r.le (Le.upd (st.free hp))))
  · cases hx with
    | cons h1 h2 =>
      cases h2
      cases h1 with
      | tup s r => exact ⟨_, _, rfl, .inr ⟨st_le st.le s, q _ H W st Kp.refl (.tup s r)⟩⟩
theorem co_list : C1O K mg (fun xs H Q => ∃ p ys, xs = [V.ref p] ∧ (SqL K H p ys ∨ SqT K H p ys) ∧ ∀ (l : Addr), H l = none → Q (V.ref l) (upd H l (HO.lst ys))) lstcD := fun xs z vs sd σ H W st hx hf Q q => by
  have go : ∀ {ys : List V} {ds : List D} {p : Addr}, H p = none → DRs K mg W ys ds → z = .lst ds → Q (.ref p) (upd H p (.lst ys)) := fun hp r e => by
    obtain ⟨g1, g2⟩ := st.newO hp (.lst _)
    exact q _ _ _ g1 g2 ⟨st.free hp, by rw [e]; exact ⟨_, upd_same, r⟩⟩ hp
  unfold lstcD at hf
  split at hf <;> cases hf
  · cases hx with
    | cons h1 h2 =>
      cases h2
      cases h1 with
      | lst s r => exact ⟨_, _, rfl, .inl (.inl (.inl (st.le _ _ s))), fun p hp => go hp r rfl⟩
  · cases hx with
    | cons h1 h2 =>
      cases h2
      cases h1 with
      | tup s r => exact ⟨_, _, rfl, .inr (st_le st.le s), fun p hp => go hp r rfl⟩
  · cases hx with
    | cons h1 h2 =>
      cases h2
      cases h1 with
      | scr s => exact ⟨_, _, rfl, .inl (sl_le st.le s), fun p hp => go hp ints_rs rfl⟩
theorem bls_rs {W : Hp} : ∀ {vs : List V} {ds : List D} {bs : List Bool}, DRs K mg W vs ds → blsD ds = some bs → vs = bs.map V.bl
  | _, _, _, .nil, h => by cases h; rfl
  | _, _, _, .cons r s, h => by
    cases r <;> simp only [blsD] at h <;> try cases h
    simp only [Option.map_eq_some_iff] at h
    obtain ⟨bs, h, rfl⟩ := h
    rw [bls_rs s h]; rfl
theorem cd_all : C1D K mg (rAll K) allD := C1D.of fun xs z vs H W le hx hf Q q => by
  unfold allD at hf
  split at hf
  · simp only [Option.map_eq_some_iff] at hf
    obtain ⟨bs, h, rfl⟩ := hf
    cases hx with
    | cons h1 h2 =>
      cases h2
      cases h1 with
      | lst s r => exact ⟨_, bs, rfl, by rw [← bls_rs r h]; exact .inl (.inl (le _ _ s)), q _ (.bl _)⟩
  · cases hf
end

section
variable {X : Cx} {e a b c : Expr} {es : List Expr} {x : Str} {p pos p2 apos : Pos}
theorem e_bi {id : String} {r : List V → Hp → VK → Prop} {f : List D → Option D} {ms : M (List D)} (hc : CallR X (.builtin id) r) (hr : C1D X.K X.mg r f) (hg : Gl X x) (hm : X.mg x = none) (hv : bootBuiltins x = some (.builtin id)) (hs : LA X (e :: es) ms) (hn : x ≠ "__name__" := by decide) (hdb : (x == ("__debug__" : Str)) = false := by decide)
    (he : starEach (e :: es) X.env = (false, eval e X.env) :: starEach es X.env := by rfl) (hpl : (backTo pos (starEach es X.env)).any (·.1) = false := by rfl) : DE X (.Call (.Name x p) (e :: es) [] pos) (bindM ms fun ds => optM (f ds)) := PE.imp (pe_callB hc hg hm hv hs hn hdb he hpl) fun σ H Q ⟨sd, W, d, sd', st, em, q⟩ => by
  obtain ⟨xs, s1, e1, em⟩ := bindM_some em
  obtain ⟨e2, rfl⟩ := optM_some em
  exact ⟨sd, W, xs, sd', st, e1, fun vs H1 W1 st1 k1 r1 => hr xs d vs sd' σ H1 W1 st1 r1 e2 Q fun v H2 W2 st2 k2 r2 => q v H2 W2 st2 (k1.trans k2) r2⟩
theorem e_ty {id : String} {r : List V → Hp → VK → Prop} {f : List D → Option D} {ms : M (List D)} (hc : CallR X (.type id) r) (hr : C1D X.K X.mg r f) (hg : Gl X x) (hm : X.mg x = none) (hv : bootBuiltins x = some (.type id)) (hs : LA X (e :: es) ms) (hn : x ≠ "__name__" := by decide) (hdb : (x == ("__debug__" : Str)) = false := by decide)
    (he : starEach (e :: es) X.env = (false, eval e X.env) :: starEach es X.env := by rfl) (hpl : (backTo pos (starEach es X.env)).any (·.1) = false := by rfl) : DE X (.Call (.Name x p) (e :: es) [] pos) (bindM ms fun ds => optM (f ds)) := PE.imp (pe_callTy hc hg hm hv hs hn hdb he hpl) fun σ H Q ⟨sd, W, d, sd', st, em, q⟩ => by
  obtain ⟨xs, s1, e1, em⟩ := bindM_some em
  obtain ⟨e2, rfl⟩ := optM_some em
  exact ⟨sd, W, xs, sd', st, e1, fun vs H1 W1 st1 k1 r1 => hr xs d vs sd' σ H1 W1 st1 r1 e2 Q fun v H2 W2 st2 k2 r2 => q v H2 W2 st2 (k1.trans k2) r2⟩
theorem o_ty {id : String} {r : List V → Hp → VK → Prop} {f : List D → Option O} {ms : M (List D)} (hc : CallR X (.type id) r) (hr : C1O X.K X.mg r f) (hg : Gl X x) (hm : X.mg x = none) (hv : bootBuiltins x = some (.type id)) (hs : LA X (e :: es) ms) (hn : x ≠ "__name__" := by decide) (hdb : (x == ("__debug__" : Str)) = false := by decide)
    (he : starEach (e :: es) X.env = (false, eval e X.env) :: starEach es X.env := by rfl) (hpl : (backTo pos (starEach es X.env)).any (·.1) = false := by rfl) : OE X (.Call (.Name x p) (e :: es) [] pos) (bindM ms fun ds => optM (f ds)) := PE.imp (pe_callTy hc hg hm hv hs hn hdb he hpl) fun σ H Q ⟨sd, W, d, sd', st, em, q⟩ => by
  obtain ⟨xs, s1, e1, em⟩ := bindM_some em
  obtain ⟨e2, rfl⟩ := optM_some em
  exact ⟨sd, W, xs, sd', st, e1, fun vs H1 W1 st1 k1 r1 => hr xs d vs sd' σ H1 W1 st1 r1 e2 Q fun v H2 W2 st2 k2 r2 hp => q v H2 W2 st2 (k1.trans k2) r2 (fun hw => (k2.own _ hw).elim (st1.notOwn hp) (fun _ => st1.notOwn hp hw)) (k1.fresh hp)⟩
/-! own lists by name -/
def ixN (i : Nat) (mb : M D) : M D := bindM (mLs i) fun _ => bindM mb fun j => bindM (mLs i) fun ds => optM (atD (.lst ds) j)
theorem e_ixN (i : Nat) {mb : M D} (hn : PE X (.Name x p2) (tVar i)) (hb : DE X b mb) (hs : PlainIx b := by exact fun _ _ => rfl) : DE X (.Subscript (.Name x p2) b pos) (ixN i mb) := PE.imp (pe_ix ix_list hn hb hs) fun σ H Q ⟨sd, W, d, sd', st, em, q⟩ => by
  obtain ⟨d0, s0, e0, em⟩ := bindM_some em
  obtain ⟨j, s1, e1, em⟩ := bindM_some em
  obtain ⟨ds, s2, e2, em⟩ := bindM_some em
  obtain ⟨e3, rfl⟩ := optM_some em
  obtain ⟨rfl, a, vs0, ha, _, _⟩ := mLs_at st e0
  refine ⟨_, ha, s0, W, j, s1, st, e1, fun v H1 W1 st1 k1 r1 => ?_⟩
  obtain ⟨rfl, a', vs, ha', h1, r⟩ := mLs_at st1 e2
  rw [ha] at ha'; cases ha'
  cases j with
  | int n =>
    cases r1
    obtain ⟨w, e4, rw⟩ := at_rs r (show atI ds n = some d from e3)
    exact ⟨_, vs, n, w, rfl, rfl, .inl (.inl h1), e4, q w H1 W1 st1 k1 rw⟩
  | _ => cases e3
def lenN (i : Nat) : M D := bindM (mLs i) fun ds => retM (.int ds.length)
theorem e_lenN (i : Nat) (hn : PE X (.Name x p2) (tVar i)) (hg : Gl X "len") (hm : X.mg "len" = none) : DE X (.Call (.Name "len" p) [.Name x p2] [] pos) (lenN i) := PE.imp (pe_callB call_len hg hm (by decide +kernel) (pa_cons hn pa_nil)) fun σ H Q ⟨sd, W, d, sd', st, em, q⟩ => by
  obtain ⟨ds, s1, e1, em⟩ := bindM_some em
  cases em
  obtain ⟨rfl, a, vs, ha, h1, r⟩ := mLs_at st e1
  exact ⟨_, ha, _, _, rfl, .inl ⟨vs, .inl (.inl h1), r.len.symm⟩, q _ H W st Kp.refl (.int _)⟩
/-- x.pop(e) -/
def popN (i : Nat) (mb : M D) : M D := bindM (mOwn i) fun _ => bindM mb fun j => bindM (mOwn i) fun ds => bindM (optM (intD j)) fun n => bindM (optM (if -2 ^ 63 ≤ n ∧ n < 2 ^ 63 then seqIndex? n ds.length else none)) fun k => bindM (optM ds[k]?) fun d => bindM (mPut i (ds.eraseIdx k)) fun _ => retM d
theorem e_popN (i : Nat) {mb : M D} (hn : PE X (.Name x p2) (tVar i)) (hb : DE X b mb) (h1 : attributeBase (.Name x p2) "pop" X.env (eval (.Name x p2) X.env) = eval (.Name x p2) X.env := by rfl)
    (h2 : ((((backTo pos (starEach [b] X.env)).all fun x => !x.1) && (backToKw pos (keywordEach [] X.env)).all fun x => x.1.isSome) && decide (([b].length + ([] : List Keyword).length + if ([] : List Keyword).isEmpty = true then 0 else 1) < 30)) = true := by rfl) (h3 : (apos.endLine == pos.line) = true := by rfl)
    (h4 : starEach [b] X.env = (false, eval b X.env) :: starEach [] X.env := by rfl) (h5 : (backTo pos (starEach [] X.env)).any (fun x => x.1) = false := by rfl) :
    DE X (.Call (.Attribute (.Name x p2) "pop" apos) [b] [] pos) (popN i mb) := PE.imp (pe_bm PySem.F.plainAttrs_list PySem.F.slot_list_pop PySem.F.type_list_pop mt_popAt hn (pa_cons hb pa_nil h4) h1 h2 h3 h4 h5) fun σ H Q ⟨sd, W, d, sd', st, em, q⟩ => by
  obtain ⟨d0, s0, e0, em⟩ := bindM_some em
  obtain ⟨j, s1, e1, em⟩ := bindM_some em
  obtain ⟨ds, s2, e2, em⟩ := bindM_some em
  obtain ⟨n, hn3, em⟩ := bindO_some em
  obtain ⟨k, hn4, em⟩ := bindO_some em
  obtain ⟨y, hn5, em⟩ := bindO_some em
  obtain ⟨_, s6, e6, em⟩ := bindM_some em
  cases em
  obtain ⟨rfl, _, a, vs0, ha, _, g0, _⟩ := mOwn_at st e0
  refine ⟨_, ha, .inl ⟨rfl, vs0, .inl (.inl g0)⟩, s0, W, j, s1, st, e1, fun v H1 W1 st1 k1 r1 => ?_⟩
  obtain ⟨rfl, es, a', vs, ha', w, g1, r⟩ := mOwn_at st1 e2
  rw [ha] at ha'; cases ha'
  split at hn4
  · rename_i hb
    cases j <;> cases hn3
    cases r1
    obtain ⟨z, ez, rz⟩ := r.get hn5
    cases e6
    obtain ⟨g2, g3⟩ := st1.put (ho := .lst (vs.eraseIdx k)) (o' := .lst (ds.eraseIdx k)) es ha w ⟨w, _, upd_same, r.erase k⟩
    exact ⟨_, vs, _, k, z, rfl, rfl, g1, hb.1, hb.2, by rw [r.len]; exact hn4, ez, q z _ _ g2 (k1.trans g3) rz⟩
  · cases hn4
end
end Fli
set_option Elab.async false
set_option linter.all false
set_option maxRecDepth 100000
set_option maxHeartbeats 4000000
namespace Fli
open PySem L2
variable [HW]

/-! statements -/
inductive Out where
  | nx (s : S) | rd (d : D) (s : S) | ro (o : O) (s : S) | bk (s : S) | ct (s : S)
abbrev MS := S → Option Out
/-- the slots that must stay where they are -/
def Pr (pr : List Nat) (σ σ' : L2.St) : Prop := ∀ i ∈ pr, σ'[i]? = σ[i]?
theorem Pr.refl {pr : List Nat} {σ : L2.St} : Pr pr σ σ := fun _ _ => rfl
theorem Pr.trans {pr : List Nat} {a b c : L2.St} (x : Pr pr a b) (y : Pr pr b c) : Pr pr a c := fun i h => (y i h).trans (x i h)
/-- an object that is handed back: new since then, or a slot's own that is not lent -/
def Fr (pr : List Nat) (sd : S) (σ : L2.St) (H : Hp) (p : Addr) : Prop := H p = none ∨ (Own sd σ p ∧ ∀ i ∈ pr, σ[i]? ≠ some (some (.ref p)))
theorem Fr.back {pr : List Nat} {sd s1 : S} {σ σ1 : L2.St} {H W H1 W1 : Hp} {p : Addr} (k : Kp sd σ H W s1 σ1 H1 W1) (q : Pr pr σ σ1) (h : Fr pr s1 σ1 H1 p) : Fr pr sd σ H p := by
  rcases h with h | ⟨h, n⟩
  · exact .inl (k.fresh h)
  · rcases k.own p h with z | z
    · exact .inr ⟨z, fun i hi => by rw [← q i hi]; exact n i hi⟩
    · exact .inl z
section
variable (K : PySem.W.Frag) (mg : Str → Option Value) (pr : List Nat)
def Post (D : Ends) (sd : S) (σ : L2.St) (H W : Hp) : Out → Prop
  | .nx s' => ∀ σ' H' W', St K mg s' σ' H' W' → Kp sd σ H W s' σ' H' W' → Pr pr σ σ' → D.nx σ' H'
  | .bk s' => ∀ σ' H' W', St K mg s' σ' H' W' → Kp sd σ H W s' σ' H' W' → Pr pr σ σ' → D.bk σ' H'
  | .ct s' => ∀ σ' H' W', St K mg s' σ' H' W' → Kp sd σ H W s' σ' H' W' → Pr pr σ σ' → D.ct σ' H'
  | .rd d s' => ∀ v σ' H' W', St K mg s' σ' H' W' → Kp sd σ H W s' σ' H' W' → Pr pr σ σ' → DR K mg W' v d → D.rt v H'
  | .ro o s' => ∀ p σ' H' W', St K mg s' σ' H' W' → Kp sd σ H W s' σ' H' W' → Pr pr σ σ' → OR K mg H' W' p o → ¬ Own s' σ' p → Fr pr sd σ H p → D.rt (.ref p) H'
def tM (m : MS) : TS := fun D σ H => ∃ sd W out, St K mg sd σ H W ∧ m sd = some out ∧ Post K mg pr D sd σ H W out
end
abbrev SE (X : Cx) (pr : List Nat) (st : Stmt) (m : MS) : Prop := PS X st (tM X.K X.mg pr m)
abbrev SEs (X : Cx) (pr : List Nat) (st : List Stmt) (m : MS) : Prop := PSs X st (tM X.K X.mg pr m)
section
variable {K : PySem.W.Frag} {mg : Str → Option Value} {pr : List Nat} {D : Ends} {sd s1 : S} {σ σ1 : L2.St} {H H1 W W1 : Hp} {out : Out}
theorem Post.behind (h : Post K mg pr D sd σ H W out) (k : Kp sd σ H W s1 σ1 H1 W1) (p : Pr pr σ σ1) : Post K mg pr D s1 σ1 H1 W1 out := by
  cases out with
  | nx s' => exact fun σ' H' W' st k' p' => h σ' H' W' st (k.trans k') (p.trans p')
  | bk s' => exact fun σ' H' W' st k' p' => h σ' H' W' st (k.trans k') (p.trans p')
  | ct s' => exact fun σ' H' W' st k' p' => h σ' H' W' st (k.trans k') (p.trans p')
  | rd d s' => exact fun v σ' H' W' st k' p' => h v σ' H' W' st (k.trans k') (p.trans p')
  | ro o s' => exact fun v σ' H' W' st k' p' r n e => h v σ' H' W' st (k.trans k') (p.trans p') r n (Fr.back k p e)
theorem St.setD (st : St K mg sd σ H W) {v : V} {d : Fli.D} (r : DR K mg W v d) (i : Nat) : St K mg (sd.set i (some (.d d))) (σ.set i (some v)) H W ∧ Kp sd σ H W (sd.set i (some (.d d))) (σ.set i (some v)) H W := by
  have ne : ∀ (j : Nat) (o : O), (sd.set i (some (A.d d)))[j]? = some (some (A.own o)) → i ≠ j ∧ sd[j]? = some (some (A.own o)) := fun j o h => by
    by_cases z : i = j
    · subst z
      by_cases l : i < sd.length
      · rw [List.getElem?_set_self l] at h; cases h
      · rw [List.getElem?_eq_none (by rw [List.length_set]; omega)] at h; cases h
    · rw [List.getElem?_set_ne z] at h; exact ⟨z, h⟩
  refine ⟨⟨st.tabs, st.le, by rw [List.length_set, List.length_set]; exact st.len, fun j d' h => ?_, fun j o h => ?_, fun j k o u a h1 h2 e1 e2 => ?_⟩, ⟨Le.refl _, fun _ _ h _ _ => h, fun _ h _ _ => h, fun a ⟨j, o, h1, h2⟩ => ?_, fun _ h => h⟩⟩
  · by_cases z : i = j
    · subst z
      by_cases l : i < sd.length
      · rw [List.getElem?_set_self l] at h; cases h
        exact ⟨v, by rw [List.getElem?_set_self (by rw [← st.len]; exact l)], r⟩
      · rw [List.getElem?_eq_none (by rw [List.length_set]; omega)] at h; cases h
    · rw [List.getElem?_set_ne z] at h
      rw [List.getElem?_set_ne z]
      exact st.dat j d' h
  · obtain ⟨z, h⟩ := ne j o h
    rw [List.getElem?_set_ne z]
    exact st.own j o h
  · obtain ⟨z1, h1⟩ := ne j o h1
    obtain ⟨z2, h2⟩ := ne k u h2
    rw [List.getElem?_set_ne z1] at e1
    rw [List.getElem?_set_ne z2] at e2
    exact st.inj j k o u a h1 h2 e1 e2
  · obtain ⟨z, h1⟩ := ne j o h1
    rw [List.getElem?_set_ne z] at h2
    exact .inl ⟨j, o, h1, h2⟩
theorem St.setO (st : St K mg sd σ H W) {p : Addr} {o : O} (r : OR K mg H W p o) (n : ¬ Own sd σ p) (i : Nat) : St K mg (sd.set i (some (.own o))) (σ.set i (some (.ref p))) H W ∧ ∀ a, Own (sd.set i (some (.own o))) (σ.set i (some (.ref p))) a → Own sd σ a ∨ a = p := by
  have cs : ∀ (j : Nat) (u : O) (a : Addr), (sd.set i (some (A.own o)))[j]? = some (some (A.own u)) → (σ.set i (some (V.ref p)))[j]? = some (some (V.ref a)) → (i = j ∧ u = o ∧ a = p) ∨ (i ≠ j ∧ sd[j]? = some (some (A.own u)) ∧ σ[j]? = some (some (V.ref a))) := fun j u a h e => by
    by_cases z : i = j
    · subst z
      by_cases l : i < sd.length
      · rw [List.getElem?_set_self l] at h
        rw [List.getElem?_set_self (by rw [← st.len]; exact l)] at e
        cases h; cases e
        exact .inl ⟨rfl, rfl, rfl⟩
      · rw [List.getElem?_eq_none (by rw [List.length_set]; omega)] at h; cases h
    · rw [List.getElem?_set_ne z] at h e
      exact .inr ⟨z, h, e⟩
  refine ⟨⟨st.tabs, st.le, by rw [List.length_set, List.length_set]; exact st.len, fun j d' h => ?_, fun j u h => ?_, fun j k u w a h1 h2 e1 e2 => ?_⟩, fun a ⟨j, u, h1, h2⟩ => ?_⟩
  · have z : i ≠ j := fun z => by
      subst z
      by_cases l : i < sd.length
      · rw [List.getElem?_set_self l] at h; cases h
      · rw [List.getElem?_eq_none (by rw [List.length_set]; omega)] at h; cases h
    rw [List.getElem?_set_ne z] at h ⊢
    exact st.dat j d' h
  · by_cases z : i = j
    · subst z
      by_cases l : i < sd.length
      · rw [List.getElem?_set_self l] at h; cases h
        exact ⟨p, by rw [List.getElem?_set_self (by rw [← st.len]; exact l)], r⟩
      · rw [List.getElem?_eq_none (by rw [List.length_set]; omega)] at h; cases h
    · rw [List.getElem?_set_ne z] at h ⊢
      exact st.own j u h
  · rcases cs j u a h1 e1 with ⟨rfl, _, rfl⟩ | ⟨z1, q1, g1⟩
    · rcases cs k w a h2 e2 with ⟨z, _, _⟩ | ⟨z2, q2, g2⟩
      · exact z
      · exact absurd ⟨k, w, q2, g2⟩ n
    · rcases cs k w a h2 e2 with ⟨_, _, rfl⟩ | ⟨z2, q2, g2⟩
      · exact absurd ⟨j, u, q1, g1⟩ n
      · exact st.inj j k u w a q1 q2 g1 g2
  · rcases cs j u a h1 h2 with ⟨_, _, z⟩ | ⟨_, q, g⟩
    · exact .inr z
    · exact .inl ⟨j, u, q, g⟩
end

/-- a target: what it does with data -/
def TGk (K : PySem.W.Frag) (mg : Str → Option Value) (pr : List Nat) (g : TG) (f : D → S → Option S) : Prop :=
  ∀ v d sd s1 σ H W, St K mg sd σ H W → DR K mg W v d → f d sd = some s1 → ∀ Q : L2.St → Hp → Prop, (∀ σ1 H1 W1, St K mg s1 σ1 H1 W1 → Kp sd σ H W s1 σ1 H1 W1 → Pr pr σ σ1 → Q σ1 H1) → g v σ H Q
def TGs' (K : PySem.W.Frag) (mg : Str → Option Value) (pr : List Nat) (g : TGs) (f : List D → S → Option S) : Prop :=
  ∀ v d sd s1 σ H W, St K mg sd σ H W → DRs K mg W v d → f d sd = some s1 → ∀ Q : L2.St → Hp → Prop, (∀ σ1 H1 W1, St K mg s1 σ1 H1 W1 → Kp sd σ H W s1 σ1 H1 W1 → Pr pr σ σ1 → Q σ1 H1) → g v σ H Q
def setF (i : Nat) : D → S → Option S := fun d s => some (s.set i (some (.d d)))
def nilF : List D → S → Option S := fun ds s => match ds with | [] => some s | _ => none
def consF (f : D → S → Option S) (g : List D → S → Option S) : List D → S → Option S := fun ds s => match ds with | d :: r => (f d s).bind (g r) | [] => none
def tupF (n : Nat) (g : List D → S → Option S) : D → S → Option S := fun d s => match d with | .tup ds => if ds.length = n then g ds s else none | _ => none
theorem pr_set {pr : List Nat} {σ : L2.St} {i : Nat} {x : Option V} (h : i ∉ pr) : Pr pr σ (σ.set i x) := fun j hj => by
  rw [List.getElem?_set_ne fun z => h (by rw [z]; exact hj)]
section
variable {K : PySem.W.Frag} {mg : Str → Option Value} {pr : List Nat}
theorem tg_name {i : Nat} (hp : i ∉ pr) : TGk K mg pr (gName i) (setF i) := fun v d sd s1 σ H W st r e Q q => by
  cases e
  obtain ⟨g1, g2⟩ := st.setD r i
  exact q _ H W g1 g2 (pr_set hp)
theorem tg_nil : TGs' K mg pr (gNil) nilF := fun v d sd s1 σ H W st r e Q q => by
  cases r with
  | nil => cases e; exact ⟨rfl, q σ H W st Kp.refl Pr.refl⟩
  | cons _ _ => cases e
theorem tg_cons {g : TG} {gs : TGs} {f : D → S → Option S} {fs : List D → S → Option S} (h : TGk K mg pr g f) (hs : TGs' K mg pr gs fs) : TGs' K mg pr (gCons g gs) (consF f fs) := fun v d sd s1 σ H W st r e Q q => by
  cases r with
  | nil => cases e
  | cons r1 r2 =>
    simp only [consF, Option.bind_eq_some_iff] at e
    obtain ⟨s2, e1, e2⟩ := e
    refine ⟨_, _, rfl, h _ _ sd s2 σ H W st r1 e1 _ fun σ1 H1 W1 st1 k1 p1 => hs _ _ s2 s1 σ1 H1 W1 st1 (r2.le k1.le) e2 Q fun σ2 H2 W2 st2 k2 p2 => q σ2 H2 W2 st2 (k1.trans k2) (p1.trans p2)⟩
theorem tg_tup {n : Nat} {gs : TGs} {fs : List D → S → Option S} (hs : TGs' K mg pr gs fs) : TGk K mg pr (gTup K n gs) (tupF n fs) := fun v d sd s1 σ H W st r e Q q => by
  unfold tupF at e
  split at e
  · split at e
    · cases r with
      | tup s r => exact ⟨_, _, rfl, st_le st.le s, by rw [r.len]; assumption, hs _ _ sd s1 σ H W st r e Q q⟩
    · cases e
  · cases e
end

section
variable {X : Cx} {pr : List Nat} {e : Expr} {st : Stmt} {sts sts' : List Stmt} {pos : Pos}
def seqM (a b : MS) : MS := fun s => (a s).bind fun o => match o with | .nx s1 => b s1 | r => some r
def nxM : MS := fun s => some (.nx s)
theorem ss_nil : SEs X pr [] nxM := PSs.imp pss_nil fun D σ H ⟨sd, W, out, stt, em, q⟩ => by
  cases em
  exact q σ H W stt Kp.refl Pr.refl
theorem ss_cons {m ms : MS} (h : SE X pr st m) (hs : SEs X pr sts ms) : SEs X pr (st :: sts) (seqM m ms) := PSs.imp (pss_cons h hs) fun D σ H ⟨sd, W, out, stt, em, q⟩ => by
  simp only [seqM, Option.bind_eq_some_iff] at em
  obtain ⟨o, e1, e2⟩ := em
  refine ⟨sd, W, o, stt, e1, ?_⟩
  cases o with
  | nx s1 => exact fun σ1 H1 W1 st1 k1 p1 => ⟨s1, W1, out, st1, e2, q.behind k1 p1⟩
  | _ => cases e2; exact q
def retMS (m : M D) : MS := fun s => (m s).map fun p => .rd p.1 p.2
def retOS (m : M O) : MS := fun s => (m s).map fun p => .ro p.1 p.2
theorem s_ret {m : M D} (h : DE X e m) : SE X pr (.Return (some e) pos) (retMS m) := PS.imp (ps_ret h) fun D σ H ⟨sd, W, out, stt, em, q⟩ => by
  simp only [retMS, Option.map_eq_some_iff] at em
  obtain ⟨⟨d, s1⟩, e1, rfl⟩ := em
  exact ⟨sd, W, d, s1, stt, e1, fun v H1 W1 st1 k1 r => q v σ H1 W1 st1 k1 Pr.refl r⟩
theorem s_retO {m : M O} (h : OE X e m) : SE X pr (.Return (some e) pos) (retOS m) := PS.imp (ps_ret h) fun D σ H ⟨sd, W, out, stt, em, q⟩ => by
  simp only [retOS, Option.map_eq_some_iff] at em
  obtain ⟨⟨d, s1⟩, e1, rfl⟩ := em
  exact ⟨sd, W, d, s1, stt, e1, fun v H1 W1 st1 k1 r n e => q v σ H1 W1 st1 k1 Pr.refl r n (.inl e)⟩
def ifS (c : M Bool) (a b : MS) : MS := fun s => (c s).bind fun p => match p.1 with | true => a p.2 | false => b p.2
theorem s_if {mc : M Bool} {ma mb : MS} (hc : BT X e mc) (ha : SEs X pr sts ma) (hb : SEs X pr sts' mb) : SE X pr (.If e sts sts' pos) (ifS mc ma mb) := PS.imp (ps_if hc ha hb) fun D σ H ⟨sd, W, out, stt, em, q⟩ => by
  simp only [ifS, Option.bind_eq_some_iff] at em
  obtain ⟨⟨k, s1⟩, e1, em⟩ := em
  refine ⟨sd, W, k, s1, stt, e1, fun H1 W1 st1 k1 => ?_⟩
  cases k with
  | true => rw [if_pos rfl]; exact ⟨s1, W1, out, st1, em, q.behind k1 Pr.refl⟩
  | false => rw [if_neg (by simp)]; exact ⟨s1, W1, out, st1, em, q.behind k1 Pr.refl⟩
def asgM (m : M D) (f : D → S → Option S) : MS := fun s => (m s).bind fun p => (f p.1 p.2).map .nx
theorem s_asg {tg : Expr} {m : M D} {g : TG} {f : D → S → Option S} (h : DE X e m) (hg : PG X tg g) (hf : TGk X.K X.mg pr g f) (h1 : swapsWithSole [tg] e pos.line X.env = pure false := by rfl) (h2 : swappedStores [tg] e X.env = pure none := by rfl)
    (h3 : (assignEach [tg] X.env).map (fun x => x.2) = [assign tg X.env] := by rfl) : SE X pr (.Assign [tg] e pos) (asgM m f) := PS.imp (ps_asg h hg h1 h2 h3) fun D σ H ⟨sd, W, out, stt, em, q⟩ => by
  simp only [asgM, Option.bind_eq_some_iff, Option.map_eq_some_iff] at em
  obtain ⟨⟨d, s1⟩, e1, s2, e2, rfl⟩ := em
  exact ⟨sd, W, d, s1, stt, e1, fun v H1 W1 st1 k1 r => hf v d s1 s2 σ H1 W1 st1 r e2 _ fun σ2 H2 W2 st2 k2 p2 => q σ2 H2 W2 st2 (k1.trans k2) p2⟩
def asgO (m : M O) (i : Nat) : MS := fun s => (m s).map fun p => .nx (p.2.set i (some (.own p.1)))
theorem t_asgO {K : PySem.W.Frag} {mg : Str → Option Value} {m : M O} {i : Nat} (hp : i ∉ pr) {D : Ends} {σ : L2.St} {H : Hp} (h : tM K mg pr (asgO m i) D σ H) : tAsg (tO K mg m) (gName i) D σ H := by
  obtain ⟨sd, W, out, stt, em, q⟩ := h
  simp only [asgO, Option.map_eq_some_iff] at em
  obtain ⟨⟨o, s1⟩, e1, rfl⟩ := em
  refine ⟨sd, W, o, s1, stt, e1, fun p H1 W1 st1 k1 r n hn => ?_⟩
  obtain ⟨g1, g2⟩ := st1.setO r n i
  refine q _ H1 W1 g1 ⟨k1.le, k1.keep, k1.new, fun a ha => ?_, k1.there⟩ (pr_set hp)
  rcases g2 a ha with z | z
  · exact k1.own a z
  · rw [z]; exact .inr hn
theorem s_asgO {i : Nat} {tg : Expr} {m : M O} (h : OE X e m) (hg : PG X tg (gName i)) (hp : i ∉ pr) (h1 : swapsWithSole [tg] e pos.line X.env = pure false := by rfl) (h2 : swappedStores [tg] e X.env = pure none := by rfl)
    (h3 : (assignEach [tg] X.env).map (fun x => x.2) = [assign tg X.env] := by rfl) : SE X pr (.Assign [tg] e pos) (asgO m i) := PS.imp (ps_asg h hg h1 h2 h3) fun D σ H h => t_asgO hp h
/-- x.append(e) -/
def appN (i : Nat) (m : M D) : MS := fun s => (bindM (mOwn i) (fun _ => bindM m fun d => bindM (mOwn i) fun ds => bindM (optM (if ds.length < sizeLine then some () else none)) fun _ => mPut i (ds ++ [d])) s).map fun p => .nx p.2
theorem s_appN (i : Nat) {x : Str} {p2 apos cpos : Pos} {m : M D} (hn : PE X (.Name x p2) (tVar i)) (hb : DE X e m) (h1 : attributeBase (.Name x p2) "append" X.env (eval (.Name x p2) X.env) = eval (.Name x p2) X.env := by rfl)
    (h2 : ((((backTo cpos (starEach [e] X.env)).all fun x => !x.1) && (backToKw cpos (keywordEach [] X.env)).all fun x => x.1.isSome) && decide (([e].length + ([] : List Keyword).length + if ([] : List Keyword).isEmpty = true then 0 else 1) < 30)) = true := by rfl) (h3 : (apos.endLine == cpos.line) = true := by rfl)
    (h4 : starEach [e] X.env = (false, eval e X.env) :: starEach [] X.env := by rfl) (h5 : (backTo cpos (starEach [] X.env)).any (fun x => x.1) = false := by rfl)
    (h6 : swapsWith (.Call (.Attribute (.Name x p2) "append" apos) [e] [] cpos) none pos.line X.env = pure false := by rfl) :
    SE X pr (.Expr (.Call (.Attribute (.Name x p2) "append" apos) [e] [] cpos) pos) (appN i m) := PS.imp (ps_expr (pe_bm PySem.F.plainAttrs_list PySem.F.slot_list_append PySem.F.type_list_append mt_append hn (pa_cons hb pa_nil h4) h1 h2 h3 h4 h5) h6) fun D σ H ⟨sd, W, out, st, em, q⟩ => by
  simp only [appN, Option.map_eq_some_iff] at em
  obtain ⟨⟨_, s9⟩, em, rfl⟩ := em
  obtain ⟨d0, s0, e0, em⟩ := bindM_some em
  obtain ⟨d, s1, e1, em⟩ := bindM_some em
  obtain ⟨ds, s2, e2, em⟩ := bindM_some em
  obtain ⟨_, hz, emf⟩ := bindO_some em
  obtain ⟨rfl, _, a, vs0, ha, _, g0, _⟩ := mOwn_at st e0
  refine ⟨_, ha, .inl ⟨rfl, vs0, .inl (.inl g0)⟩, s0, W, d, s1, st, e1, fun v H1 W1 st1 k1 r1 => ?_⟩
  obtain ⟨rfl, es, a', vs, ha', w, g1, r⟩ := mOwn_at st1 e2
  rw [ha] at ha'; cases ha'
  split at hz
  · rename_i hl
    cases emf
    obtain ⟨g2, g3⟩ := st1.put (ho := .lst (vs ++ [v])) (o' := .lst (ds ++ [d])) es ha w ⟨w, _, upd_same, r.app (.cons r1 .nil)⟩
    exact ⟨_, vs, _, rfl, rfl, g1, by rw [r.len]; exact hl, q σ _ _ g2 (k1.trans g3) Pr.refl⟩
  · cases hz
/-- x[e] = f -/
def putN (i : Nat) (mi m : M D) : MS := fun s => (bindM m (fun d => bindM (mOwn i) fun _ => bindM mi fun j => bindM (mOwn i) fun ds => bindM (optM ((intD j).bind fun n => ixN' ds.length n)) fun k => mPut i (ds.set k d)) s).map fun p => .nx p.2
where ixN' (n : Nat) (i : Int) : Option Nat := L2.ixN n i
theorem s_putN (i : Nat) {x : Str} {p2 p3 : Pos} {b : Expr} {m mi : M D} (hn : PE X (.Name x p2) (tVar i)) (hb : DE X b mi) (h : DE X e m) (h0 : ∀ (v : Value), assign (.Subscript (.Name x p2) b p3) X.env v = (do
                let ov ← holding [v] (eval (.Name x p2) X.env)
                let iv ← holding [v, ov] (eval b X.env)
                standAt p3
                holding [v, ov, iv] (setItem ov iv v)
                release [v, ov, iv] []) := by exact fun _ => rfl)
    (h1 : swapsWithSole [.Subscript (.Name x p2) b p3] e pos.line X.env = pure false := by rfl) (h2 : swappedStores [.Subscript (.Name x p2) b p3] e X.env = pure none := by rfl)
    (h3 : (assignEach [.Subscript (.Name x p2) b p3] X.env).map (fun x => x.2) = [assign (.Subscript (.Name x p2) b p3) X.env] := by rfl) : SE X pr (.Assign [.Subscript (.Name x p2) b p3] e pos) (putN i mi m) := PS.imp (ps_asg h (pg_sub hn hb set_list h0) h1 h2 h3) fun D σ H ⟨sd, W, out, st, em, q⟩ => by
  simp only [putN, Option.map_eq_some_iff] at em
  obtain ⟨⟨_, s9⟩, em, rfl⟩ := em
  obtain ⟨d, s0, e0, em⟩ := bindM_some em
  obtain ⟨d1, s1, e1, em⟩ := bindM_some em
  obtain ⟨j, s2, e2, em⟩ := bindM_some em
  obtain ⟨ds, s3, e3, em⟩ := bindM_some em
  obtain ⟨k, hk, emf⟩ := bindO_some em
  refine ⟨sd, W, d, s0, st, e0, fun v H1 W1 st1 k1 r1 => ?_⟩
  obtain ⟨rfl, _, a, vs0, ha, _, g0, _⟩ := mOwn_at st1 e1
  refine ⟨_, ha, s1, W1, j, s2, st1, e2, fun u H2 W2 st2 k2 r2 => ?_⟩
  obtain ⟨rfl, es, a', vs, ha', w, g1, r⟩ := mOwn_at st2 e3
  rw [ha] at ha'; cases ha'
  cases j with
  | int n =>
    cases r2
    cases emf
    obtain ⟨g2, g3⟩ := st2.put (ho := .lst (vs.set k v)) (o' := .lst (ds.set k d)) es ha w ⟨w, _, upd_same, DRs.set (r1.le k2.le) k r⟩
    exact ⟨_, vs, n, k, rfl, rfl, g1, by rw [r.len]; exact hk, q σ _ _ g2 ((k1.trans k2).trans g3) Pr.refl⟩
  | _ => cases hk
end
end Fli
set_option Elab.async false
set_option linter.all false
set_option maxRecDepth 100000
set_option maxHeartbeats 4000000
namespace Fli
open PySem L2
variable [HW]

/-! loops -/
def loopM (asg : D → S → Option S) (body : MS) : List D → MS
  | [], s => some (.nx s)
  | d :: ds, s => (asg d s).bind fun s1 => (body s1).bind fun o => match o with
    | .nx s2 => loopM asg body ds s2
    | .ct s2 => loopM asg body ds s2
    | .bk s2 => some (.nx s2)
    | r => some r
def itD : D → Option (List D)
  | .lst ds => some ds
  | .tup ds => some ds
  | .str z => some (z.cps.toList.map fun c => .str ⟨#[c]⟩)
  | _ => none
theorem str_it {z : Str} {i c : Nat} (h : z.cps[i]? = some c) : (z.cps.toList.map fun c => D.str ⟨#[c]⟩)[i]? = some (.str ⟨#[c]⟩) := by
  rw [List.getElem?_map, Array.getElem?_toList, h]; rfl
def rngD (lo : Int) (n : Nat) : List D := (List.range n).map fun (i : Nat) => D.int (lo + (i : Int))
theorem rngD_get {lo : Int} {n i : Nat} (h : i < n) : (rngD lo n)[i]? = some (.int (lo + (i : Int))) := by
  unfold rngD
  rw [List.getElem?_map, List.getElem?_range h]; rfl
section
variable {K : PySem.W.Frag} {mg : Str → Option Value} {pr : List Nat} {D : Ends} {sd : S} {σ : L2.St} {H W : Hp} {out : Out} {g : TG} {asg : Fli.D → S → Option S} {m : MS}
/-- between two turns -/
def Turn (K : PySem.W.Frag) (mg : Str → Option Value) (pr : List Nat) (sd : S) (σ : L2.St) (H W : Hp) (asg : Fli.D → S → Option S) (m : MS) (items : List Fli.D) (out : Out) (i : Nat) (σ' : L2.St) (H' : Hp) : Prop :=
  ∃ sd' W', St K mg sd' σ' H' W' ∧ Kp sd σ H W sd' σ' H' W' ∧ Pr pr σ σ' ∧ loopM asg m (items.drop i) sd' = some out
theorem Turn.one {items : List Fli.D} {i : Nat} {d : Fli.D} {x : V} {σ' : L2.St} {H' : Hp} (hg : TGk K mg pr g asg) (q : Post K mg pr D sd σ H W out) (hd : items[i]? = some d) (t : Turn K mg pr sd σ H W asg m items out i σ' H')
    (hx : ∀ W', Le W W' → DR K mg W' x d) : g x σ' H' fun σ2 H2 => tM K mg pr m { nx := Turn K mg pr sd σ H W asg m items out (i + 1), rt := D.rt, bk := D.nx, ct := Turn K mg pr sd σ H W asg m items out (i + 1) } σ2 H2 := by
  obtain ⟨sd', W', st, k, p, em⟩ := t
  have hl : i < items.length := (List.getElem?_eq_some_iff.mp hd).1
  have hd' : items[i] = d := (List.getElem?_eq_some_iff.mp hd).2
  rw [List.drop_eq_getElem_cons hl, hd'] at em
  simp only [loopM, Option.bind_eq_some_iff] at em
  obtain ⟨s1, e1, o, e2, em⟩ := em
  refine hg x d sd' s1 σ' H' W' st (hx W' k.le) e1 _ fun σ1 H1 W1 st1 k1 p1 => ⟨s1, W1, o, st1, e2, ?_⟩
  have k' := k.trans k1
  have p' := p.trans p1
  cases o with
  | nx s2 => exact fun σ2 H2 W2 st2 k2 p2 => ⟨s2, W2, st2, k'.trans k2, p'.trans p2, em⟩
  | ct s2 => exact fun σ2 H2 W2 st2 k2 p2 => ⟨s2, W2, st2, k'.trans k2, p'.trans p2, em⟩
  | bk s2 =>
    cases em
    exact fun σ2 H2 W2 st2 k2 p2 => q σ2 H2 W2 st2 (k'.trans k2) (p'.trans p2)
  | rd d s2 =>
    cases em
    exact fun v σ2 H2 W2 st2 k2 p2 r => q v σ2 H2 W2 st2 (k'.trans k2) (p'.trans p2) r
  | ro o s2 =>
    cases em
    exact fun v σ2 H2 W2 st2 k2 p2 r n e => q v σ2 H2 W2 st2 (k'.trans k2) (p'.trans p2) r n (Fr.back k' p' e)
theorem Turn.done {items : List Fli.D} {σ' : L2.St} {H' : Hp} {n : Nat} (hn : items.length ≤ n) (q : Post K mg pr D sd σ H W out) (t : Turn K mg pr sd σ H W asg m items out n σ' H') : D.nx σ' H' := by
  obtain ⟨sd', W', st, k, p, em⟩ := t
  rw [List.drop_eq_nil_of_le hn] at em
  cases em
  exact q σ' H' W' st k p
end

section
variable {X : Cx} {pr : List Nat} {e a b tg : Expr} {sts : List Stmt} {pos p : Pos} {g : TG} {asg : D → S → Option S} {m : MS}
def forL (mi : M D) (asg : D → S → Option S) (m : MS) : MS := fun s => (mi s).bind fun q => (itD q.1).bind fun ds => loopM asg m ds q.2
theorem s_forL {mi : M D} (hi : DE X e mi) (hg : PG X tg g) (hf : TGk X.K X.mg pr g asg) (hb : SEs X pr sts m) (hc : X.calm = true) (hp : PassesOwn (model X.prog X.w) X.A X.env X.xe) (hfs : ∀ (x : Value), foldedSetIterable e X.env x = pure x := by intro _; rfl) : SE X pr (.For tg e sts [] pos) (forL mi asg m) := by
  have h1 := ps_for (pos := pos) hp hc (pi_list (tg := tg) hi) hg hb hfs
  have h2 := ps_for (pos := pos) hp hc (pi_tup (tg := tg) hi) hg hb hfs
  have h3 := ps_for (pos := pos) hp hc (pi_str (tg := tg) hi) hg hb hfs
  refine ⟨fun pins s σ H D I ⟨sd, W, out, st, em, q⟩ => ?_⟩
  simp only [forL, Option.bind_eq_some_iff] at em
  obtain ⟨⟨d, s1⟩, e1, ds, e2, em⟩ := em
  cases d with
  | lst es =>
    cases e2
    refine h1.run pins s σ H D I ⟨sd, W, _, s1, st, e1, fun v H1 W1 st1 k1 r1 => ?_⟩
    cases r1 with
    | @lst a vs _ sa r =>
      refine ⟨a, rfl, ⟨vs, .inl (.inl (st1.le _ _ sa))⟩, for_list (K := X.K) (a := a) (xs := vs) (Turn X.K X.mg pr s1 σ H1 W1 asg m ds out) ⟨s1, W1, st1, Kp.refl, Pr.refl, em⟩
        (fun i σ' H' _ ⟨sd', W', st', k', _, _⟩ => .inl (.inl (st'.le _ _ (k'.le _ _ sa)))) (fun i x σ' H' hx t => ?_) fun σ' H' t => Turn.done (by rw [r.len]; exact Nat.le_refl _) (q.behind k1 Pr.refl) t⟩
      obtain ⟨d, hd, rd⟩ := r.get' hx
      exact Turn.one hf (q.behind k1 Pr.refl) hd t fun W' le => rd.le le
  | tup es =>
    cases e2
    refine h2.run pins s σ H D I ⟨sd, W, _, s1, st, e1, fun v H1 W1 st1 k1 r1 => ?_⟩
    cases r1 with
    | @tup a vs _ sa r =>
      refine ⟨a, rfl, ⟨vs, st_le st1.le sa⟩, for_tup (K := X.K) (a := a) (xs := vs) (Turn X.K X.mg pr s1 σ H1 W1 asg m ds out) ⟨s1, W1, st1, Kp.refl, Pr.refl, em⟩
        (fun i σ' H' _ ⟨sd', W', st', k', _, _⟩ => st_le (k'.le.trans st'.le) sa) (fun i x σ' H' hx t => ?_) fun σ' H' t => Turn.done (by rw [r.len]; exact Nat.le_refl _) (q.behind k1 Pr.refl) t⟩
      obtain ⟨d, hd, rd⟩ := r.get' hx
      exact Turn.one hf (q.behind k1 Pr.refl) hd t fun W' le => rd.le le
  | str z =>
    cases e2
    refine h3.run pins s σ H D I ⟨sd, W, _, s1, st, e1, fun v H1 W1 st1 k1 r1 => ?_⟩
    cases r1
    have qq := q.behind k1 Pr.refl
    refine ⟨z, rfl, fun i m' σ' H' => Turn X.K X.mg pr s1 σ H1 W1 asg m (z.cps.toList.map fun c => .str ⟨#[c]⟩) out i σ' H' ∧ m' + i = z.cps.size, ⟨z.cps.size, ⟨s1, W1, st1, Kp.refl, Pr.refl, em⟩, rfl⟩, ?_⟩
    rintro i m' σ' H' ⟨t, hm'⟩
    by_cases hi : i < z.cps.size
    · refine .inr ⟨hi, fun σ2 H2 => Turn X.K X.mg pr s1 σ H1 W1 asg m (z.cps.toList.map fun c => .str ⟨#[c]⟩) out (i + 1) σ2 H2, fun σ2 H2 n => ⟨m' - 1, by omega, n, by omega⟩, ?_⟩
      rintro x H2 ⟨rfl, c, hc, rfl⟩
      exact Turn.one hf qq (str_it hc) t fun W' le => .str _
    · exact .inl ⟨by show z.cps.size ≤ i; omega, Turn.done (by simp; omega) qq t⟩
  | _ => cases e2
def okR (j : Int) : Bool := decide (-2 ^ 62 ≤ j ∧ j < 2 ^ 62)
def rng1 : List D → Option (List D)
  | [.int j] => if okR j = true then some (rngD 0 j.toNat) else none
  | _ => none
theorem rng1_some {ds items : List D} (h : rng1 ds = some items) : ∃ j : Int, ds = [.int j] ∧ (-2 ^ 62 ≤ j ∧ j < 2 ^ 62) ∧ items = rngD 0 j.toNat := by
  unfold rng1 at h
  split at h
  · split at h
    · rename_i hj
      cases h
      exact ⟨_, rfl, of_decide_eq_true hj, rfl⟩
    · cases h
  · cases h
def forR (ms : M (List D)) (rng : List D → Option (List D)) (asg : D → S → Option S) (m : MS) : MS := fun s => (ms s).bind fun q => (rng q.1).bind fun ds => loopM asg m ds q.2
theorem s_for1 {ms : M (List D)} {p3 : Pos} (hi : LA X [a] ms) (hr : Gl X "range") (hm : X.mg "range" = none) (hg : PG X tg g) (hf : TGk X.K X.mg pr g asg) (hb : SEs X pr sts m) (hc : X.calm = true) (hp : PassesOwn (model X.prog X.w) X.A X.env X.xe) (hs : starEach [a] X.env = [(false, eval a X.env)] := by rfl) : SE X pr (.For tg (.Call (.Name "range" p) [a] [] p3) sts [] pos) (forR ms rng1 asg m) := PS.imp (ps_for hp hc (pi_range1 hr hm hi hs) hg hb) fun D σ H ⟨sd, W, out, st, em, q⟩ => by
  simp only [forR, Option.bind_eq_some_iff] at em
  obtain ⟨⟨d, s1⟩, e1, ds, e2, em⟩ := em
  obtain ⟨j, hd, hj, hi⟩ := rng1_some e2
  subst hd hi
  refine ⟨sd, W, _, s1, st, e1, fun v H1 W1 st1 k1 r1 => ?_⟩
  cases r1 with
  | cons r1 r2 =>
    cases r1; cases r2
    refine ⟨j, rfl, hj.1, hj.2, for_range (lo := 0) (n := j.toNat) (Turn X.K X.mg pr s1 σ H1 W1 asg m (rngD 0 j.toNat) out) ⟨s1, W1, st1, Kp.refl, Pr.refl, em⟩ (fun i σ' H' hi t => ?_)
      fun σ' H' t => Turn.done (by unfold rngD; simp) (q.behind k1 Pr.refl) t⟩
    exact Turn.one hf (q.behind k1 Pr.refl) (rngD_get hi) t fun W' le => .int _
end
end Fli
set_option Elab.async false
set_option linter.all false
set_option maxRecDepth 100000
set_option maxHeartbeats 4000000
namespace Fli
open PySem L2
variable [HW]

/-! comprehensions -/
theorem wipe_get (σ : L2.St) (j : Nat) : ∀ vs : List Nat, (wipe σ vs)[j]? = if j ∈ vs then (σ[j]?).map (fun _ => (none : Option V)) else σ[j]?
  | [] => by simp [wipe]
  | v :: vs => by
    unfold wipe
    by_cases h : v = j
    · subst h
      rw [if_pos (by simp)]
      by_cases l : v < σ.length
      · rw [List.getElem?_set_self (by rw [wipe_length]; exact l), List.getElem?_eq_getElem l]; rfl
      · rw [List.getElem?_eq_none (by rw [List.length_set, wipe_length]; omega), List.getElem?_eq_none (by omega)]; rfl
    · rw [List.getElem?_set_ne h, wipe_get σ j vs]
      by_cases q : j ∈ vs
      · rw [if_pos q, if_pos (by simp [q])]
      · rw [if_neg q, if_neg (by simp [q]; exact fun z => h z.symm)]
theorem wipe_eq {σ σ' : L2.St} {vs : List Nat} (h : ∀ j, j ∉ vs → σ[j]? = σ'[j]?) (l : σ.length = σ'.length) : wipe σ vs = wipe σ' vs := by
  refine List.ext_getElem? fun j => ?_
  rw [wipe_get, wipe_get]
  by_cases q : j ∈ vs
  · rw [if_pos q, if_pos q]
    by_cases z : j < σ.length
    · rw [List.getElem?_eq_getElem z, List.getElem?_eq_getElem (l ▸ z)]; rfl
    · rw [List.getElem?_eq_none (by omega), List.getElem?_eq_none (by omega)]
  · rw [if_neg q, if_neg q]; exact h j q
theorem wipe_set {σ : L2.St} {vs : List Nat} {i : Nat} {x : Option V} (h : i ∈ vs) : wipe (σ.set i x) vs = wipe σ vs :=
  wipe_eq (fun j hj => List.getElem?_set_ne fun z => hj (by rw [← z]; exact h)) (List.length_set ..)
theorem wipe_wipe {σ : L2.St} {vs : List Nat} : wipe (wipe σ vs) vs = wipe σ vs :=
  wipe_eq (fun j hj => by rw [wipe_get, if_neg hj]) (wipe_length _ _)
def wipeS (vs : List Nat) (s : S) : S := s.mapIdx fun j x => if j ∈ vs then none else x
def restS (s0 : S) (vs : List Nat) (s : S) : S := s.mapIdx fun j x => if j ∈ vs then (s0[j]?).join else x
def noOwn (vs : List Nat) (s : S) : Bool := vs.all fun j => match s[j]? with
  | some (some (.own _)) => false
  | _ => true
theorem wipeS_get {vs : List Nat} {s : S} {j : Nat} {a : A} : (wipeS vs s)[j]? = some (some a) ↔ j ∉ vs ∧ s[j]? = some (some a) := by
  unfold wipeS
  rw [List.getElem?_mapIdx]
  cases e : s[j]? with
  | none => simp
  | some x => by_cases h : j ∈ vs <;> simp [h]
theorem restS_get {vs : List Nat} {s0 s : S} {j : Nat} {a : A} (h : (restS s0 vs s)[j]? = some (some a)) : (j ∈ vs ∧ s0[j]? = some (some a)) ∨ (j ∉ vs ∧ s[j]? = some (some a)) := by
  unfold restS at h
  rw [List.getElem?_mapIdx] at h
  cases e : s[j]? with
  | none => rw [e] at h; simp at h
  | some x =>
    rw [e] at h
    by_cases q : j ∈ vs
    · simp only [q, if_pos, Option.map_some, Option.some.injEq] at h
      refine .inl ⟨q, ?_⟩
      cases z : s0[j]? with
      | none => rw [z] at h; cases h
      | some y => rw [z] at h; rw [show y = some a from h]
    · simp only [q, if_neg, not_false_iff, Option.map_some, Option.some.injEq] at h
      exact .inr ⟨q, by rw [← h]⟩
section
variable {K : PySem.W.Frag} {mg : Str → Option Value} {sd s0 : S} {σ : L2.St} {H H0 W W0 : Hp} {vs : List Nat}
theorem Own.wipe {a : Addr} (h : Own (wipeS vs sd) (L2.wipe σ vs) a) : Own sd σ a := by
  obtain ⟨i, o, e1, e2⟩ := h
  obtain ⟨q, e1⟩ := wipeS_get.mp e1
  rw [wipe_get, if_neg q] at e2
  exact ⟨i, o, e1, e2⟩
theorem St.wipe (st : St K mg sd σ H W) : St K mg (wipeS vs sd) (L2.wipe σ vs) H W where
  tabs := st.tabs
  le := st.le
  len := by unfold wipeS; rw [List.length_mapIdx, wipe_length]; exact st.len
  dat := fun i d h => by
    obtain ⟨q, h⟩ := wipeS_get.mp h
    obtain ⟨v, e, r⟩ := st.dat i d h
    exact ⟨v, by rw [wipe_get, if_neg q]; exact e, r⟩
  own := fun i o h => by
    obtain ⟨q, h⟩ := wipeS_get.mp h
    obtain ⟨v, e, r⟩ := st.own i o h
    exact ⟨v, by rw [wipe_get, if_neg q]; exact e, r⟩
  inj := fun i j o u a h1 h2 e1 e2 => by
    obtain ⟨q1, h1⟩ := wipeS_get.mp h1
    obtain ⟨q2, h2⟩ := wipeS_get.mp h2
    rw [wipe_get, if_neg q1] at e1
    rw [wipe_get, if_neg q2] at e2
    exact st.inj i j o u a h1 h2 e1 e2
theorem noOwn_at {j : Nat} {o : O} (h : noOwn vs sd = true) (q : j ∈ vs) (e : sd[j]? = some (some (.own o))) : False := by
  have := List.all_eq_true.mp h j q
  rw [e] at this
  cases this
theorem St.rest (st : St K mg sd (L2.wipe σ vs) H W) (s0t : St K mg s0 σ H0 W0) (le : Le W0 W) (no : noOwn vs s0 = true) : St K mg (restS s0 vs sd) σ H W ∧ ∀ a, Own (restS s0 vs sd) σ a → Own sd (L2.wipe σ vs) a := by
  have back : ∀ {j : Nat} {o : O}, (restS s0 vs sd)[j]? = some (some (.own o)) → j ∉ vs ∧ sd[j]? = some (some (.own o)) := fun h => by
    rcases restS_get h with ⟨q, h⟩ | h
    · exact (noOwn_at no q h).elim
    · exact h
  refine ⟨⟨st.tabs, st.le, ?_, fun j d h => ?_, fun j o h => ?_, fun i j o u a h1 h2 e1 e2 => ?_⟩, fun a ⟨j, o, e1, e2⟩ => ?_⟩
  · unfold restS; rw [List.length_mapIdx, st.len, wipe_length]
  · rcases restS_get h with ⟨q, h⟩ | ⟨q, h⟩
    · obtain ⟨v, e, r⟩ := s0t.dat j d h
      exact ⟨v, e, r.le le⟩
    · obtain ⟨v, e, r⟩ := st.dat j d h
      rw [wipe_get, if_neg q] at e
      exact ⟨v, e, r⟩
  · obtain ⟨q, h⟩ := back h
    obtain ⟨v, e, r⟩ := st.own j o h
    rw [wipe_get, if_neg q] at e
    exact ⟨v, e, r⟩
  · obtain ⟨q1, h1⟩ := back h1
    obtain ⟨q2, h2⟩ := back h2
    exact st.inj i j o u a h1 h2 (by rw [wipe_get, if_neg q1]; exact e1) (by rw [wipe_get, if_neg q2]; exact e2)
  · obtain ⟨q, h⟩ := back e1
    exact ⟨j, o, h, by rw [wipe_get, if_neg q]; exact e2⟩
/-- an unseen object changes -/
theorem St.mut (st : St K mg sd σ H W) {p : Addr} {o : HO} (w : W p = none) (n : ¬ Own sd σ p) (np : ∀ u, H p = some u → mt u) : St K mg sd σ (upd H p o) W where
  tabs := st.tabs.upd np
  le := fun a u h => by rw [upd_ne (ne_of_none h w)]; exact st.le a u h
  len := st.len
  dat := st.dat
  own := fun i u h => by
    obtain ⟨a, e, w', r⟩ := st.own i u h
    have ne : a ≠ p := fun z => n ⟨i, u, h, z ▸ e⟩
    refine ⟨a, e, w', ?_⟩
    rw [upd_ne ne]; exact r
  inj := st.inj
end
/-- a target keeps to its slots -/
def TGw (vs : List Nat) (g : TG) : Prop := ∀ (x : V) (σ : L2.St) (H : Hp) (Q : L2.St → Hp → Prop), g x σ H (fun σ2 H2 => wipe σ2 vs = wipe σ vs → Q σ2 H2) → g x σ H fun σ2 H2 => wipe σ2 vs = wipe σ vs ∧ Q σ2 H2
theorem tw_name {vs : List Nat} {i : Nat} (h : i ∈ vs) : TGw vs (gName i) := fun x σ H Q q => ⟨wipe_set h, q (wipe_set h)⟩
def compL (vs : List Nat) (asg : D → S → Option S) (c : M Bool) (elt : M D) : List D → List D → M (List D)
  | [], acc, s => some (acc, s)
  | d :: ds, acc, s => (asg d s).bind fun s1 => (c s1).bind fun p => match p.1 with
    | true => (elt p.2).bind fun y => if acc.length < sizeLine then compL vs asg c elt ds (acc ++ [y.1]) (wipeS vs y.2) else none
    | false => compL vs asg c elt ds acc (wipeS vs p.2)
def compM (vs : List Nat) (asg : D → S → Option S) (c : M Bool) (elt : M D) (items : List D) : M O := fun s => if noOwn vs s = true then (compL vs asg c elt items [] (wipeS vs s)).map fun r => (.lst r.1, restS s vs r.2) else none
section
variable {K : PySem.W.Frag} {mg : Str → Option Value} {sd : S} {σ : L2.St} {H W : Hp} {vs : List Nat} {g : TG} {asg : D → S → Option S} {c : M Bool} {elt : M D} {items : List D} {Dl : Addr}
def CT (K : PySem.W.Frag) (mg : Str → Option Value) (sd : S) (σ : L2.St) (H W : Hp) (vs : List Nat) (asg : D → S → Option S) (c : M Bool) (elt : M D) (items : List D) (r : List D × S) (Dl : Addr) (i : Nat) (H' : Hp) : Prop :=
  ∃ sd' W' acc av, St K mg sd' (wipe σ vs) H' W' ∧ Kp (wipeS vs sd) (wipe σ vs) H W sd' (wipe σ vs) H' W' ∧ W' Dl = none ∧ ¬ Own sd' (wipe σ vs) Dl ∧ H' Dl = some (.lst av) ∧ DRs K mg W' av acc ∧ compL vs asg c elt (items.drop i) acc sd' = some r
theorem CT.start {r : List D × S} (st : St K mg sd σ H W) (e : compL vs asg c elt items [] (wipeS vs sd) = some r) (hD : H Dl = none) : CT K mg sd σ H W vs asg c elt items r Dl 0 (upd H Dl (.lst [])) := by
  obtain ⟨g1, g2⟩ := (st.wipe (vs := vs)).newO hD (.lst [])
  exact ⟨_, W, [], [], g1, g2, st.free hD, fun z => st.notOwn hD z.wipe, upd_same, .nil, e⟩
theorem CT.turn {r : List D × S} {i : Nat} {x : V} {d : D} {H' : Hp} (hg : TGk K mg [] g asg) (hw : TGw vs g) (hd : items[i]? = some d) (hx : ∀ W', Le W W' → DR K mg W' x d) (hD : H Dl = none) (t : CT K mg sd σ H W vs asg c elt items r Dl i H') :
    g x (wipe σ vs) H' fun σ2 H2 => wipe σ2 vs = wipe σ vs ∧ tB K mg c σ2 H2 fun b H3 => if b = true then tD K mg elt σ2 H3 fun y H4 => ∃ acc, H4 Dl = some (HO.lst acc) ∧ acc.length < sizeLine ∧ CT K mg sd σ H W vs asg c elt items r Dl (i + 1) (upd H4 Dl (HO.lst (acc ++ [y])))
      else CT K mg sd σ H W vs asg c elt items r Dl (i + 1) H3 := by
  obtain ⟨sd', W', acc, av, st, k, w, n, hl, ra, em⟩ := t
  have hlt : i < items.length := (List.getElem?_eq_some_iff.mp hd).1
  have hd' : items[i] = d := (List.getElem?_eq_some_iff.mp hd).2
  rw [List.drop_eq_getElem_cons hlt, hd'] at em
  simp only [compL, Option.bind_eq_some_iff] at em
  obtain ⟨s1, e1, ⟨b, s2⟩, e2, em⟩ := em
  have ww : wipe (wipe σ vs) vs = wipe σ vs := wipe_wipe
  have := hw x (wipe σ vs) H' (fun σ2 H2 => tB K mg c σ2 H2 fun b H3 => if b = true then tD K mg elt σ2 H3 fun y H4 => ∃ acc, H4 Dl = some (HO.lst acc) ∧ acc.length < sizeLine ∧ CT K mg sd σ H W vs asg c elt items r Dl (i + 1) (upd H4 Dl (HO.lst (acc ++ [y])))
      else CT K mg sd σ H W vs asg c elt items r Dl (i + 1) H3) (hg x d sd' s1 (wipe σ vs) H' W' st (hx W' k.le) e1 _ fun σ1 H1 W1 st1 k1 _ hz => ?_)
  · rw [ww] at this; exact this
  rw [ww] at hz
  have kk : Kp (wipeS vs sd) (wipe σ vs) H W s1 σ1 H1 W1 := k.trans k1
  refine ⟨s1, W1, b, s2, st1, e2, fun H2 W2 st2 k2 => ?_⟩
  have keep : ∀ {s3 : S} {H3 W3 : Hp}, Kp sd' (wipe σ vs) H' W' s3 σ1 H3 W3 → H3 Dl = some (.lst av) ∧ W3 Dl = none ∧ ¬ Own s3 σ1 Dl := fun q =>
    ⟨q.keep Dl _ hl n rfl, q.new Dl w (by rw [hl]; simp) n, fun z => (q.own Dl z).elim n fun z => by rw [hl] at z; cases z⟩
  have wk : ∀ {s3 : S} {H3 W3 : Hp}, Kp (wipeS vs sd) (wipe σ vs) H W s3 σ1 H3 W3 → Kp (wipeS vs sd) (wipe σ vs) H W (wipeS vs s3) (wipe σ vs) H3 W3 := fun q =>
    ⟨q.le, q.keep, q.new, fun a z => q.own a (by rw [← hz] at z; exact z.wipe), q.there⟩
  cases b with
  | false =>
    refine iteF ?_
    obtain ⟨a1, a2, a3⟩ := keep (k1.trans k2)
    refine ⟨wipeS vs s2, W2, acc, av, by rw [← hz]; exact st2.wipe, wk (kk.trans k2), a2, fun z => a3 (by rw [← hz] at z; exact z.wipe), a1, ra.le (k1.le.trans k2.le), em⟩
  | true =>
    refine iteT ?_
    simp only [Option.bind_eq_some_iff] at em
    obtain ⟨⟨y, s3⟩, e3, em⟩ := em
    split at em
    · rename_i hsz
      refine ⟨s2, W2, y, s3, st2, e3, fun v H3 W3 st3 k3 r3 => ?_⟩
      obtain ⟨a1, a2, a3⟩ := keep ((k1.trans k2).trans k3)
      have k4 := (kk.trans k2).trans k3
      refine ⟨av, a1, by rw [ra.len]; exact hsz, wipeS vs s3, W3, acc ++ [y], av ++ [v], by rw [← hz]; exact ((st3.mut a2 a3 (mt_at a1 (by first | exact mt_lst | exact mt_dK | exact mt_ins | exact mt_dx)))).wipe, wk ?_, a2, fun z => a3 (by rw [← hz] at z; exact z.wipe), upd_same, (ra.le ((k1.le.trans k2.le).trans k3.le)).app (.cons r3 .nil), em⟩
      exact ⟨k4.le, fun a o h q => by rw [upd_ne (ne_of_none h hD)]; exact k4.keep a o h q, k4.new, k4.own, fun a h => by
        by_cases z : a = Dl
        · rw [z, upd_same]; simp
        · rw [upd_ne z]; exact k4.there a h⟩
    · cases em
theorem CT.done {r : List D × S} {H' : Hp} {n : Nat} (hn : items.length ≤ n) (st : St K mg sd σ H W) (no : noOwn vs sd = true) (t : CT K mg sd σ H W vs asg c elt items r Dl n H') (hD : H Dl = none) :
    ∃ W', St K mg (restS sd vs r.2) σ H' W' ∧ Kp sd σ H W (restS sd vs r.2) σ H' W' ∧ OR K mg H' W' Dl (.lst r.1) ∧ ¬ Own (restS sd vs r.2) σ Dl := by
  obtain ⟨sd', W', acc, av, st', k, w, n', hl, ra, em⟩ := t
  rw [List.drop_eq_nil_of_le hn] at em
  cases em
  obtain ⟨g1, g2⟩ := st'.rest st k.le no
  refine ⟨W', g1, ⟨k.le, fun a o h q => k.keep a o h fun z => q z.wipe, fun a h h' q => k.new a h h' fun z => q z.wipe, fun a h => (k.own a (g2 a h)).imp (fun z => z.wipe) id, k.there⟩, ⟨w, av, hl, ra⟩, fun z => n' (g2 _ z)⟩
end

section
variable {X : Cx} {e elt tg a b : Expr} {ifs : List Expr} {scope : Scope} {own : List (Str × Nat)} {pos p : Pos} {g : TG} {asg : D → S → Option S} {m : M D} {c : M Bool}
/-- the tests of a comprehension: none, one -/
abbrev PTB (X : Cx) (ifs : List Expr) (c : M Bool) : Prop := PTs X ifs (tB X.K X.mg c)
theorem pts_0 : PTB X [] (retM true) := ⟨fun pins s σ H Q I ⟨sd, W, k, sd', st, em, q⟩ => by
  cases em
  exact (pts_nil (X := X)).run pins s σ H Q I (q H W st Kp.refl)⟩
theorem pts_1 {t : Expr} (h : BT X t c) : PTB X [t] c := pts_one h
def cplL (mi : M D) (vs : List Nat) (asg : D → S → Option S) (c : M Bool) (elt : M D) : M O := fun s => (mi s).bind fun q => (itD q.1).bind fun ds => compM vs asg c elt ds q.2
def cplR (ms : M (List D)) (rng : List D → Option (List D)) (vs : List Nat) (asg : D → S → Option S) (c : M Bool) (elt : M D) : M O := fun s => (ms s).bind fun q => (rng q.1).bind fun ds => compM vs asg c elt ds q.2
theorem compM_some {vs : List Nat} {elt : M D} {items : List D} {s s' : S} {o : O} (h : compM vs asg c elt items s = some (o, s')) : noOwn vs s = true ∧ ∃ r, compL vs asg c elt items [] (wipeS vs s) = some r ∧ o = .lst r.1 ∧ s' = restS s vs r.2 := by
  unfold compM at h
  split at h
  · simp only [Option.map_eq_some_iff] at h
    obtain ⟨r, h, e⟩ := h
    cases e
    exact ⟨by assumption, r, h, rfl, rfl⟩
  · cases h
/-- what a comprehension over a list | a tuple | a range asks -/
theorem t_cplL {K : PySem.W.Frag} {mg : Str → Option Value} {mi : M D} {vs : List Nat} {el : M D} (hf : TGk K mg [] g asg) (hw : TGw vs g) {σ : L2.St} {H : Hp} {Q : VK} (h : tO K mg (cplL mi vs asg c el) σ H Q) :
    tLc (iList K (tD K mg mi)) g (tB K mg c) (tD K mg el) vs σ H Q ∨ tLc (iTup K (tD K mg mi)) g (tB K mg c) (tD K mg el) vs σ H Q ∨ tLc (iStr (tD K mg mi)) g (tB K mg c) (tD K mg el) vs σ H Q := by
  obtain ⟨sd, W, o, sd', st, em, q⟩ := h
  simp only [cplL, Option.bind_eq_some_iff] at em
  obtain ⟨⟨d, s1⟩, e1, ds, e2, em⟩ := em
  obtain ⟨no, r, e3, rfl, rfl⟩ := compM_some em
  cases d with
  | lst es =>
    cases e2
    refine .inl ⟨sd, W, _, s1, st, e1, fun v H1 W1 st1 k1 r1 => ?_⟩
    cases r1 with
    | @lst a vs' _ sa ra =>
      refine ⟨a, rfl, ⟨vs', .inl (.inl (st1.le _ _ sa))⟩, fun Dl hD => lc_list (K := K) (a := a) (xs := vs') (CT K mg s1 σ H1 W1 vs asg c el ds r Dl) (CT.start st1 e3 hD) (fun i H' _ ⟨sd', W', _, _, st', k', _⟩ => .inl (.inl (st'.le _ _ (k'.le _ _ sa)))) (fun i x H' hx t => ?_) fun H' t => ?_⟩
      · obtain ⟨d, hd, rd⟩ := ra.get' hx
        exact CT.turn hf hw hd (fun W' le => rd.le le) hD t
      · obtain ⟨W', g1, g2, g3, g4⟩ := CT.done (by rw [ra.len]; exact Nat.le_refl _) st1 no t hD
        exact q Dl H' W' g1 (k1.trans g2) g3 g4 (k1.fresh hD)
  | tup es =>
    cases e2
    refine .inr (.inl ⟨sd, W, _, s1, st, e1, fun v H1 W1 st1 k1 r1 => ?_⟩)
    cases r1 with
    | @tup a vs' _ sa ra =>
      refine ⟨a, rfl, ⟨vs', st_le st1.le sa⟩, fun Dl hD => lc_tup (K := K) (a := a) (xs := vs') (CT K mg s1 σ H1 W1 vs asg c el ds r Dl) (CT.start st1 e3 hD) (fun i H' _ ⟨sd', W', _, _, st', k', _⟩ => st_le (k'.le.trans st'.le) sa) (fun i x H' hx t => ?_) fun H' t => ?_⟩
      · obtain ⟨d, hd, rd⟩ := ra.get' hx
        exact CT.turn hf hw hd (fun W' le => rd.le le) hD t
      · obtain ⟨W', g1, g2, g3, g4⟩ := CT.done (by rw [ra.len]; exact Nat.le_refl _) st1 no t hD
        exact q Dl H' W' g1 (k1.trans g2) g3 g4 (k1.fresh hD)
  | str z =>
    cases e2
    refine .inr (.inr ⟨sd, W, _, s1, st, e1, fun v H1 W1 st1 k1 r1 => ?_⟩)
    cases r1
    refine ⟨z, rfl, fun Dl hD => ⟨fun i m' H' => CT K mg s1 σ H1 W1 vs asg c el (z.cps.toList.map fun c => .str ⟨#[c]⟩) r Dl i H' ∧ m' + i = z.cps.size, ⟨z.cps.size, CT.start st1 e3 hD, rfl⟩, ?_⟩⟩
    rintro i m' H' ⟨t, hm'⟩
    by_cases hi : i < z.cps.size
    · refine .inr ⟨hi, fun H2 => CT K mg s1 σ H1 W1 vs asg c el (z.cps.toList.map fun c => .str ⟨#[c]⟩) r Dl (i + 1) H2, fun H2 n => ⟨m' - 1, by omega, n, by omega⟩, ?_⟩
      rintro x H2 ⟨rfl, ch, hc, rfl⟩
      exact CT.turn hf hw (str_it hc) (fun W' le => .str _) hD t
    · refine .inl ⟨by show z.cps.size ≤ i; omega, ?_⟩
      obtain ⟨W', g1, g2, g3, g4⟩ := CT.done (by simp; omega) st1 no t hD
      exact q Dl H' W' g1 (k1.trans g2) g3 g4 (k1.fresh hD)
  | _ => cases e2
theorem t_cpl1 {K : PySem.W.Frag} {mg : Str → Option Value} {ms : M (List D)} {vs : List Nat} {el : M D} (hf : TGk K mg [] g asg) (hw : TGw vs g) {σ : L2.St} {H : Hp} {Q : VK} (h : tO K mg (cplR ms rng1 vs asg c el) σ H Q) :
    tLc (iRng1 (tL K mg ms)) g (tB K mg c) (tD K mg el) vs σ H Q := by
  obtain ⟨sd, W, o, sd', st, em, q⟩ := h
  simp only [cplR, Option.bind_eq_some_iff] at em
  obtain ⟨⟨d, s1⟩, e1, ds, e2, em⟩ := em
  obtain ⟨no, r, e3, rfl, rfl⟩ := compM_some em
  obtain ⟨j, hd, hj, hi⟩ := rng1_some e2
  subst hd hi
  refine ⟨sd, W, _, s1, st, e1, fun v H1 W1 st1 k1 r1 => ?_⟩
  cases r1 with
  | cons r1 r2 =>
    cases r1; cases r2
    refine ⟨j, rfl, hj.1, hj.2, fun Dl hD => lc_range (lo := 0) (n := j.toNat) (CT K mg s1 σ H1 W1 vs asg c el (rngD 0 j.toNat) r Dl) (CT.start st1 e3 hD) (fun i H' hi t => CT.turn hf hw (rngD_get hi) (fun W' le => .int _) hD t) fun H' t => ?_⟩
    obtain ⟨W', g1, g2, g3, g4⟩ := CT.done (by unfold rngD; simp) st1 no t hD
    exact q Dl H' W' g1 (k1.trans g2) g3 g4 (k1.fresh hD)
theorem o_lcL {mi : M D} {own : List (Str × Nat)} {vs : List Nat} (hvs : own.map (fun x => x.2) = vs) (hc : X.calm = true) (hN : X.N.Nodup) (hi : DE X e mi) (ok : BlkOk X.N X.env.scope scope own)
    (hg : ∀ (s : Shared) (H : Hp) (C : Addr) (cl : List (Str × Addr)) (fp : List Addr), PG (X.blk s H scope (compEnvC scope cl C X.env) fp) tg g) (hf : TGk X.K X.mg [] g asg) (hw : TGw vs g)
    (ht : ∀ (s : Shared) (H : Hp) (C : Addr) (cl : List (Str × Addr)) (fp : List Addr), PTs (X.blk s H scope (compEnvC scope cl C X.env) fp) ifs (tB X.K X.mg c))
    (he : ∀ (s : Shared) (H : Hp) (C : Addr) (cl : List (Str × Addr)) (fp : List Addr), PE (X.blk s H scope (compEnvC scope cl C X.env) fp) elt (tD X.K X.mg m)) (hfs : ∀ (x : Value), foldedSetIterable e X.env x = pure x := by intro _; rfl) :
    OE X (.ListComp elt [⟨tg, e, ifs, 0⟩] scope pos) (cplL mi vs asg c m) := by
  subst hvs
  have h1 := pe_lc (pos := pos) hc hN (pi_list (tg := tg) hi) ok hg ht he hfs
  have h2 := pe_lc (pos := pos) hc hN (pi_tup (tg := tg) hi) ok hg ht he hfs
  have h3 := pe_lc (pos := pos) hc hN (pi_str (tg := tg) hi) ok hg ht he hfs
  refine ⟨fun pins s σ H Q I h => ?_⟩
  rcases t_cplL hf hw h with h | h | h
  · exact h1.run pins s σ H Q I h
  · exact h2.run pins s σ H Q I h
  · exact h3.run pins s σ H Q I h
theorem o_lc1 {ms : M (List D)} {own : List (Str × Nat)} {vs : List Nat} {p3 : Pos} (hvs : own.map (fun x => x.2) = vs) (hc : X.calm = true) (hN : X.N.Nodup) (hi : LA X [a] ms) (hr : Gl X "range") (hm : X.mg "range" = none) (ok : BlkOk X.N X.env.scope scope own)
    (hg : ∀ (s : Shared) (H : Hp) (C : Addr) (cl : List (Str × Addr)) (fp : List Addr), PG (X.blk s H scope (compEnvC scope cl C X.env) fp) tg g) (hf : TGk X.K X.mg [] g asg) (hw : TGw vs g)
    (ht : ∀ (s : Shared) (H : Hp) (C : Addr) (cl : List (Str × Addr)) (fp : List Addr), PTs (X.blk s H scope (compEnvC scope cl C X.env) fp) ifs (tB X.K X.mg c))
    (he : ∀ (s : Shared) (H : Hp) (C : Addr) (cl : List (Str × Addr)) (fp : List Addr), PE (X.blk s H scope (compEnvC scope cl C X.env) fp) elt (tD X.K X.mg m)) (hs : starEach [a] X.env = [(false, eval a X.env)] := by rfl) :
    OE X (.ListComp elt [⟨tg, .Call (.Name "range" p) [a] [] p3, ifs, 0⟩] scope pos) (cplR ms rng1 vs asg c m) := by
  subst hvs
  exact PE.imp (pe_lc hc hN (pi_range1 hr hm hi hs) ok hg ht he) fun _ _ _ h => t_cpl1 hf hw h
end
end Fli
set_option Elab.async false
set_option linter.all false
set_option maxRecDepth 100000
set_option maxHeartbeats 4000000
namespace Fli
open PySem L2
variable [HW]

/-! defs: the promise is the body's mirror, run at the arguments -/
def startS (n : Nat) (as : List A) : S := as.map some ++ List.replicate (n - as.length) none
def callR (n : Nat) (body : MS) (as : List A) : Option Out := body (startS n as)
def endsOf (Q : VK) : Ends := { nx := fun _ H' => Q .non H', rt := Q }
def spM (K : PySem.W.Frag) (mg : Str → Option Value) (N ps : List Str) (pr : List Nat) (body : MS) : Sp := fun vs H Q _ => vs.length = ps.length ∧ tM K mg pr body (endsOf Q) (L2.start N vs) H
section
variable {P : Program} {w : World} {K : PySem.W.Frag} {mg : Str → Option Value} {base : Heap}
theorem def_ok {x qual : Str} {st : Stmt} {f : Addr} {fd : FuncData} {N ps : List Str} {k : Nat} {pr : List Nat} {body : MS} (F : Fun K x qual st f fd) (Sc : FnScope N ps (defScope st))
    (hb : ∀ (cdv : Value) (A : Around) (outer : List Env) (s : Shared) (H : Hp) (E : XK), Room k (A.deeper (PyProof.Rows.envOfC qual (defScope st) s.heap.objs.size f cdv)) → SEs (cxOf CX0 P w K mg base N qual (defScope st) f cdv A outer s H E).nox pr (defBody st) body) :
    FnOk P w K mg base CX0 (k + 1) f fd ps (spM K mg N ps pr body) :=
  F.ok Sc (fun vs H Q E h => h.1) fun cdv A outer s H vs Q E hr h => ⟨_, hb cdv A outer s H E hr, h.2⟩
end
section
variable {K : PySem.W.Frag} {mg : Str → Option Value} {sd sd' : S} {σ σ' : L2.St} {H H' W W' : Hp}
theorem startS_get {n : Nat} {as : List A} {i : Nat} {a : A} (h : (startS n as)[i]? = some (some a)) : as[i]? = some a := by
  unfold startS at h
  by_cases l : i < as.length
  · rw [List.getElem?_append_left (by rw [List.length_map]; exact l), List.getElem?_map] at h
    cases e : as[i]? with
    | none => rw [e] at h; cases h
    | some b => rw [e] at h; cases h; rfl
  · rw [List.getElem?_append_right (by rw [List.length_map]; omega), List.getElem?_replicate] at h
    split at h <;> cases h
theorem start_get {N : List Str} {vs : List V} {i : Nat} {v : V} (h : vs[i]? = some v) : (L2.start N vs)[i]? = some (some v) := by
  unfold L2.start
  have l := (List.getElem?_eq_some_iff.mp h).1
  rw [List.getElem?_append_left (by rw [List.length_map]; exact l), List.getElem?_map, h]; rfl
theorem startS_len {n : Nat} {as : List A} {N : List Str} {vs : List V} (hn : N.length = n) (h : vs.length = as.length) : (startS n as).length = (L2.start N vs).length := by
  unfold startS L2.start
  simp [h, hn]
theorem map_d_own {ds : List D} {i : Nat} {o : O} (h : (ds.map A.d)[i]? = some (.own o)) : False := by
  rw [List.getElem?_map] at h
  cases e : ds[i]? with
  | none => rw [e] at h; cases h
  | some b => rw [e] at h; cases h
/-- a callee that gets data alone -/
theorem St.call {N : List Str} {n : Nat} {vs : List V} {ds : List D} (st : St K mg sd σ H W) (hn : N.length = n) (r : DRs K mg W vs ds) : St K mg (startS n (ds.map .d)) (L2.start N vs) H W where
  tabs := st.tabs
  le := st.le
  len := startS_len hn (by rw [r.len, List.length_map])
  dat := fun i d h => by
    have h := startS_get h
    rw [List.getElem?_map] at h
    cases e : ds[i]? with
    | none => rw [e] at h; cases h
    | some b =>
      rw [e] at h; cases h
      obtain ⟨v, e1, r1⟩ := r.get e
      exact ⟨v, start_get e1, r1⟩
  own := fun i o h => (map_d_own (startS_get h)).elim
  inj := fun i j o u a h1 _ _ _ => (map_d_own (startS_get h1)).elim
theorem noown_start {n : Nat} {ds : List D} {a : Addr} : ¬ Own (startS n (ds.map .d)) σ a := fun ⟨i, o, h, _⟩ => map_d_own (startS_get h)
/-- behind a call that was lent nothing -/
theorem St.after {sc : S} {σc : L2.St} {s2 : S} {σ2 : L2.St} (st : St K mg sd σ H W) (k : Kp sc σc H W s2 σ2 H' W') (st2 : St K mg s2 σ2 H' W') (no : ∀ a, ¬ Own sc σc a) : St K mg sd σ H' W' ∧ Kp sd σ H W sd σ H' W' :=
  st.growN k.le st2.le (fun a o h => k.keep a o h (no a)) k.there (fun a h h' => k.new a h h' (no a)) st2.tabs
end

section
variable {X : Cx} {k n : Nat} {f : Addr} {fd : FuncData} {N ps : List Str} {pr : List Nat} {body : MS} {dvs : List V} {dd : List D} {ds : List Value} {x : Str} {p pos p2 : Pos} {e : Expr} {es : List Expr} {ms : M (List D)}
def callD (n : Nat) (body : MS) (ms : M (List D)) (dd : List D) : M D := fun s => (ms s).bind fun q => (callR n body ((q.1 ++ dd).map .d)).bind fun o => match o with
  | .rd d _ => some (d, q.2)
  | .nx _ => some (.non, q.2)
  | _ => none
def callO (n : Nat) (body : MS) (ms : M (List D)) (dd : List D) : M O := fun s => (ms s).bind fun q => (callR n body ((q.1 ++ dd).map .d)).bind fun o => match o with
  | .ro o _ => some (o, q.2)
  | _ => none
theorem t_callD {K : PySem.W.Frag} {mg : Str → Option Value} {E : XK} (hn : N.length = n) (hl : ∀ (q : List D) (s s' : S), ms s = some (q, s') → (q ++ dd).length = ps.length) (hd : ∀ W, DRs K mg W dvs dd) {σ : L2.St} {H : Hp} {Q : VK} (h : tD K mg (callD n body ms dd) σ H Q) : tCall (spM K mg N ps [] body) dvs E (tL K mg ms) σ H Q := by
  obtain ⟨sd, W, d, sd', st, em, q⟩ := h
  simp only [callD, Option.bind_eq_some_iff] at em
  obtain ⟨⟨xs, s1⟩, e1, o, e2, em⟩ := em
  refine ⟨sd, W, xs, s1, st, e1, fun vs H1 W1 st1 k1 r1 => ?_⟩
  have r2 := r1.app (hd W1)
  refine ⟨by rw [r2.len]; exact hl _ _ _ e1, startS n ((xs ++ dd).map .d), W1, o, st1.call hn r2, e2, ?_⟩
  cases o with
  | rd d' s2 =>
    cases em
    intro v σ2 H2 W2 st2 k2 _ r
    obtain ⟨g1, g2⟩ := st1.after k2 st2 fun a => noown_start
    exact q v H2 W2 g1 (k1.trans g2) r
  | nx s2 =>
    cases em
    intro σ2 H2 W2 st2 k2 _
    obtain ⟨g1, g2⟩ := st1.after k2 st2 fun a => noown_start
    exact q _ H2 W2 g1 (k1.trans g2) .non
  | _ => cases em
theorem t_callO {K : PySem.W.Frag} {mg : Str → Option Value} {E : XK} (hn : N.length = n) (hl : ∀ (q : List D) (s s' : S), ms s = some (q, s') → (q ++ dd).length = ps.length) (hd : ∀ W, DRs K mg W dvs dd) {σ : L2.St} {H : Hp} {Q : VK} (h : tO K mg (callO n body ms dd) σ H Q) : tCall (spM K mg N ps [] body) dvs E (tL K mg ms) σ H Q := by
  obtain ⟨sd, W, d, sd', st, em, q⟩ := h
  simp only [callO, Option.bind_eq_some_iff] at em
  obtain ⟨⟨xs, s1⟩, e1, o, e2, em⟩ := em
  refine ⟨sd, W, xs, s1, st, e1, fun vs H1 W1 st1 k1 r1 => ?_⟩
  have r2 := r1.app (hd W1)
  refine ⟨by rw [r2.len]; exact hl _ _ _ e1, startS n ((xs ++ dd).map .d), W1, o, st1.call hn r2, e2, ?_⟩
  cases o with
  | ro o' s2 =>
    cases em
    intro p σ2 H2 W2 st2 k2 _ r nn hf
    have hp : H1 p = none := hf.elim id fun z => (noown_start z.1).elim
    obtain ⟨g1, g2⟩ := st1.after k2 st2 fun a => noown_start
    exact q p H2 W2 g1 (k1.trans g2) r (fun z => (g2.own p z).elim (fun z => st1.notOwn hp z) fun _ => st1.notOwn hp z) (k1.fresh hp)
  | _ => cases em
/-- the length of an argument list -/
def LenIs (ms : M (List D)) (n : Nat) : Prop := ∀ (q : List D) (s s' : S), ms s = some (q, s') → q.length = n
theorem len_nil : LenIs (retM []) 0 := fun q s s' h => by cases h; rfl
theorem len_cons {m : M D} {ms : M (List D)} {n : Nat} (h : LenIs ms n) : LenIs (bindM m fun d => bindM ms fun ds => retM (d :: ds)) (n + 1) := fun q s s' e => by
  obtain ⟨x, s1, e1, em⟩ := bindM_some e
  obtain ⟨xs, s2, e2, em⟩ := bindM_some em
  cases em
  simp [h _ _ _ e2]
theorem e_call {j : Nat} (F : FnOk X.prog X.w X.K X.mg X.base CX0 k f fd ps (spM X.K X.mg N ps [] body)) (hr : Room k X.A) (hg : Gl X x) (hm : X.mg x = some (.ref f)) (hk : PySem.W.keepIn X.K (.ref f) = true) (hb : Binds X.K fd ps ds) (hd : Vals dvs ds)
    (hdd : ∀ W, DRs X.K X.mg W dvs dd) (hn : N.length = n) (hs : LA X (e :: es) ms) (hl : LenIs ms j) (hj : j + dd.length = ps.length) (hdb : (x == ("__debug__" : Str)) = false := by decide) (he : starEach (e :: es) X.env = (false, eval e X.env) :: starEach es X.env := by rfl) (hpl : (backTo pos (starEach es X.env)).any (·.1) = false := by rfl) :
    DE X (.Call (.Name x p) (e :: es) [] pos) (callD n body ms dd) := PE.imp (pe_call F hr hg hm hk hb hd pass0 hs hdb he hpl) fun σ H Q h => t_callD (E := E0) hn (fun q s s' z => by rw [List.length_append, hl q s s' z]; exact hj) hdd h
theorem o_call {j : Nat} (F : FnOk X.prog X.w X.K X.mg X.base CX0 k f fd ps (spM X.K X.mg N ps [] body)) (hr : Room k X.A) (hg : Gl X x) (hm : X.mg x = some (.ref f)) (hk : PySem.W.keepIn X.K (.ref f) = true) (hb : Binds X.K fd ps ds) (hd : Vals dvs ds)
    (hdd : ∀ W, DRs X.K X.mg W dvs dd) (hn : N.length = n) (hs : LA X (e :: es) ms) (hl : LenIs ms j) (hj : j + dd.length = ps.length) (hdb : (x == ("__debug__" : Str)) = false := by decide) (he : starEach (e :: es) X.env = (false, eval e X.env) :: starEach es X.env := by rfl) (hpl : (backTo pos (starEach es X.env)).any (·.1) = false := by rfl) :
    OE X (.Call (.Name x p) (e :: es) [] pos) (callO n body ms dd) := PE.imp (pe_call F hr hg hm hk hb hd pass0 hs hdb he hpl) fun σ H Q h => t_callO (E := E0) hn (fun q s s' z => by rw [List.length_append, hl q s s' z]; exact hj) hdd h
end

/-! a first argument that is lent: a slot's own list, changed by the callee -/
section
variable {K : PySem.W.Frag} {mg : Str → Option Value} {sd : S} {σ : L2.St} {H H' W W' : Hp}
theorem lent_get {n : Nat} {o : O} {ds : List D} {i : Nat} {a : A} (h : (startS n (.own o :: ds.map .d))[i]? = some (some a)) : (i = 0 ∧ a = .own o) ∨ ∃ j d, i = j + 1 ∧ ds[j]? = some d ∧ a = .d d := by
  have h := startS_get h
  cases i with
  | zero => cases h; exact .inl ⟨rfl, rfl⟩
  | succ j =>
    rw [List.getElem?_cons_succ, List.getElem?_map] at h
    cases e : ds[j]? with
    | none => rw [e] at h; cases h
    | some b => rw [e] at h; cases h; exact .inr ⟨j, b, rfl, e, rfl⟩
theorem St.lend {N : List Str} {n : Nat} {vs : List V} {ds : List D} {a : Addr} {o : O} (st : St K mg sd σ H W) (hn : N.length = n) (r : DRs K mg W vs ds) (ro : OR K mg H W a o) :
    St K mg (startS n (.own o :: ds.map .d)) (L2.start N (.ref a :: vs)) H W ∧ ∀ b, Own (startS n (.own o :: ds.map .d)) (L2.start N (.ref a :: vs)) b → b = a := by
  have s0 : (L2.start N (.ref a :: vs))[0]? = some (some (.ref a)) := start_get rfl
  refine ⟨⟨st.tabs, st.le, startS_len hn (by simp [r.len]), fun i d h => ?_, fun i u h => ?_, fun i j u w b h1 h2 _ _ => ?_⟩, fun b ⟨i, u, h, e⟩ => ?_⟩
  · rcases lent_get h with ⟨_, h⟩ | ⟨j, d', rfl, h, e⟩
    · cases h
    · cases e
      obtain ⟨v, e1, r1⟩ := r.get h
      exact ⟨v, start_get (by simpa using e1), r1⟩
  · rcases lent_get h with ⟨rfl, h⟩ | ⟨j, d', rfl, h, e⟩
    · cases h; exact ⟨a, s0, ro⟩
    · cases e
  · rcases lent_get h1 with ⟨rfl, _⟩ | ⟨_, _, _, _, e⟩
    · rcases lent_get h2 with ⟨rfl, _⟩ | ⟨_, _, _, _, e⟩
      · rfl
      · cases e
    · cases e
  · rcases lent_get h with ⟨rfl, _⟩ | ⟨_, _, _, _, z⟩
    · rw [s0] at e; cases e; rfl
    · cases z
/-- behind such a call -/
theorem St.back {sc : S} {σc : L2.St} {s2 : S} {σ2 : L2.St} {i : Nat} {a : Addr} {o o' : O} (st : St K mg sd σ H W) (e : sd[i]? = some (some (.own o))) (ea : σ[i]? = some (some (.ref a))) (k : Kp sc σc H W s2 σ2 H' W') (st2 : St K mg s2 σ2 H' W') (no : ∀ b, Own sc σc b → b = a) (ha : H a ≠ none) (r : OR K mg H' W' a o') :
    St K mg (sd.set i (some (.own o'))) σ H' W' ∧ Kp sd σ H W (sd.set i (some (.own o'))) σ H' W' := by
  have hi : i < sd.length := (List.getElem?_eq_some_iff.mp e).1
  have ow : Own sd σ a := ⟨i, o, e, ea⟩
  have back : ∀ (j : Nat) (u : O), (sd.set i (some (A.own o')))[j]? = some (some (A.own u)) → ∃ u', sd[j]? = some (some (A.own u')) := fun j u h => by
    by_cases z : i = j
    · subst z; exact ⟨o, e⟩
    · rw [List.getElem?_set_ne z] at h; exact ⟨u, h⟩
  have nn : ∀ b, b ≠ a → ¬ Own sc σc b := fun b z q => z (no b q)
  refine ⟨⟨st2.tabs, st2.le, by rw [List.length_set]; exact st.len, fun j d h => ?_, fun j u h => ?_, fun j l u u' x h1 h2 => ?_⟩, ⟨k.le, fun x u h n => k.keep x u h (nn x fun z => n (z ▸ ow)), fun x h h' n => k.new x h h' (nn x fun z => n (z ▸ ow)), fun x ⟨j, u, h1, h2⟩ => ?_, k.there⟩⟩
  · have ne : i ≠ j := fun z => by subst z; rw [List.getElem?_set_self hi] at h; cases h
    rw [List.getElem?_set_ne ne] at h
    obtain ⟨v, e1, r1⟩ := st.dat j d h
    exact ⟨v, e1, r1.le k.le⟩
  · by_cases z : i = j
    · subst z
      rw [List.getElem?_set_self hi] at h; cases h
      exact ⟨a, ea, r⟩
    · rw [List.getElem?_set_ne z] at h
      obtain ⟨x, e1, w1, r1⟩ := st.own j u h
      have ne : x ≠ a := fun q => z (st.inj i j o u a e h ea (q ▸ e1))
      cases u with
      | lst ds =>
        obtain ⟨vs, q1, q2⟩ := r1
        exact ⟨x, e1, k.new x w1 (by rw [q1]; simp) (nn x ne), vs, k.keep _ _ q1 (nn x ne) rfl, q2.le k.le⟩
      | obj c fs =>
        obtain ⟨C, dx, gs, q0, q1, q2⟩ := r1
        exact ⟨x, e1, k.new x w1 (by rw [q1]; simp) (nn x ne), C, dx, gs, q0, k.keep _ _ q1 (nn x ne) rfl, q2.le k.le⟩
      | dic kvs =>
        obtain ⟨gs, q1, q2⟩ := r1
        exact ⟨x, e1, k.new x w1 (by rw [q1]; simp) (nn x ne), gs, k.keep _ _ q1 (nn x ne) rfl, q2.le k.le⟩
      | dit kvs =>
        obtain ⟨gs, q1, q2⟩ := r1
        exact ⟨x, e1, k.new x w1 (by rw [q1]; simp) (nn x ne), gs, k.keep _ _ q1 (nn x ne) rfl, q2.le k.le⟩
  · obtain ⟨v, h1⟩ := back j u h1
    obtain ⟨v', h2⟩ := back l u' h2
    exact st.inj j l v v' x h1 h2
  · obtain ⟨v, h1⟩ := back j u h1
    exact .inl ⟨j, v, h1, h2⟩
end
end Fli
set_option Elab.async false
set_option linter.all false
set_option maxRecDepth 100000
set_option maxHeartbeats 4000000
namespace Fli
open PySem L2
variable [HW]

def slotO (i : Nat) (s : S) : Option O := match s[i]? with
  | some (some (.own o)) => some o
  | _ => none
theorem slotO_some {s : S} {i : Nat} {o : O} (h : slotO i s = some o) : s[i]? = some (some (.own o)) := by
  unfold slotO at h
  split at h
  · cases h; assumption
  · cases h
def firstO (s : S) : Option O := slotO 0 s
theorem firstO_some {s : S} {o : O} (h : firstO s = some o) : s[0]? = some (some (.own o)) := slotO_some h
def lendD (n : Nat) (body : MS) (i : Nat) (ms : M (List D)) : M D := fun s => (slotO i s).bind fun _ => (ms s).bind fun q => (slotO i q.2).bind fun o => (callR n body (.own o :: q.1.map .d)).bind fun r => match r with
  | .rd d s2 => (firstO s2).map fun o' => (d, q.2.set i (some (.own o')))
  | .nx s2 => (firstO s2).map fun o' => (.non, q.2.set i (some (.own o')))
  | _ => none
def lendO (n : Nat) (body : MS) (i : Nat) (ms : M (List D)) : M O := fun s => (slotO i s).bind fun _ => (ms s).bind fun q => (slotO i q.2).bind fun o => (callR n body (.own o :: q.1.map .d)).bind fun r => match r with
  | .ro u s2 => (firstO s2).map fun o' => (u, q.2.set i (some (.own o')))
  | _ => none
section
variable {K : PySem.W.Frag} {mg : Str → Option Value} {k n i : Nat} {N ps : List Str} {body : MS} {ms : M (List D)} {E : XK}
/-- the slot's object, at the call's end -/
theorem own_end {sc : S} {s2 : S} {σ2 σ : L2.St} {vs : List V} {H H2 W2 : Hp} {a : Addr} {o' : O} (st2 : St K mg s2 σ2 H2 W2) (p : Pr [0] (L2.start N (.ref a :: vs)) σ2) (h : firstO s2 = some o') : OR K mg H2 W2 a o' := by
  obtain ⟨b, e, r⟩ := st2.own 0 o' (firstO_some h)
  rw [p 0 (by simp), start_get (N := N) (vs := .ref a :: vs) (i := 0) rfl] at e
  cases e
  exact r
theorem t_lendD (hn : N.length = n) {j : Nat} (hl : LenIs ms j) (hj : j + 1 = ps.length) {σ : L2.St} {H : Hp} {Q : VK} (h : tD K mg (lendD n body i ms) σ H Q) : tCall (spM K mg N ps [0] body) [] E (tCons (tVar i) (tL K mg ms)) σ H Q := by
  obtain ⟨sd, W, d, sd', st, em, q⟩ := h
  simp only [lendD, Option.bind_eq_some_iff] at em
  obtain ⟨o0, e0, ⟨xs, s1⟩, e1, o, e2, r, e3, em⟩ := em
  obtain ⟨a, ha, r0⟩ := st.own i o0 (slotO_some e0)
  refine ⟨_, ha, sd, W, xs, s1, st, e1, fun vs H1 W1 st1 k1 r1 => ?_⟩
  have es := slotO_some e2
  obtain ⟨a', ha', ro⟩ := st1.own i o es
  rw [ha] at ha'; cases ha'
  obtain ⟨sl, no⟩ := st1.lend (N := N) hn r1 ro
  have hne : H1 a ≠ none := by
    obtain ⟨_, z⟩ := ro
    cases o with
    | lst ds => obtain ⟨vs, z, _⟩ := z; rw [z]; simp
    | obj c fs => obtain ⟨C, dx, gs, _, z, _⟩ := z; rw [z]; simp
    | dic kvs => obtain ⟨gs, z, _⟩ := z; rw [z]; simp
    | dit kvs => obtain ⟨gs, z, _⟩ := z; rw [z]; simp
  show spM K mg N ps [0] body ((.ref a :: vs) ++ []) H1 Q E
  rw [List.append_nil]
  refine ⟨by rw [List.length_cons, r1.len, hl _ _ _ e1]; exact hj, _, W1, r, sl, e3, ?_⟩
  cases r with
  | rd d' s2 =>
    simp only [Option.map_eq_some_iff] at em
    obtain ⟨o', e4, em⟩ := em
    cases em
    intro v σ2 H2 W2 st2 k2 p2 rr
    obtain ⟨g1, g2⟩ := st1.back es ha k2 st2 no hne (own_end (sc := s2) (σ := σ) (H := H) st2 p2 e4)
    exact q v H2 W2 g1 (k1.trans g2) rr
  | nx s2 =>
    simp only [Option.map_eq_some_iff] at em
    obtain ⟨o', e4, em⟩ := em
    cases em
    intro σ2 H2 W2 st2 k2 p2
    obtain ⟨g1, g2⟩ := st1.back es ha k2 st2 no hne (own_end (sc := s2) (σ := σ) (H := H) st2 p2 e4)
    exact q _ H2 W2 g1 (k1.trans g2) .non
  | _ => cases em
theorem t_lendO (hn : N.length = n) {j : Nat} (hl : LenIs ms j) (hj : j + 1 = ps.length) {σ : L2.St} {H : Hp} {Q : VK} (h : tO K mg (lendO n body i ms) σ H Q) : tCall (spM K mg N ps [0] body) [] E (tCons (tVar i) (tL K mg ms)) σ H Q := by
  obtain ⟨sd, W, d, sd', st, em, q⟩ := h
  simp only [lendO, Option.bind_eq_some_iff] at em
  obtain ⟨o0, e0, ⟨xs, s1⟩, e1, o, e2, r, e3, em⟩ := em
  obtain ⟨a, ha, r0⟩ := st.own i o0 (slotO_some e0)
  refine ⟨_, ha, sd, W, xs, s1, st, e1, fun vs H1 W1 st1 k1 r1 => ?_⟩
  have es := slotO_some e2
  obtain ⟨a', ha', ro⟩ := st1.own i o es
  rw [ha] at ha'; cases ha'
  obtain ⟨sl, no⟩ := st1.lend (N := N) hn r1 ro
  have hne : H1 a ≠ none := by
    obtain ⟨_, z⟩ := ro
    cases o with
    | lst ds => obtain ⟨vs, z, _⟩ := z; rw [z]; simp
    | obj c fs => obtain ⟨C, dx, gs, _, z, _⟩ := z; rw [z]; simp
    | dic kvs => obtain ⟨gs, z, _⟩ := z; rw [z]; simp
    | dit kvs => obtain ⟨gs, z, _⟩ := z; rw [z]; simp
  show spM K mg N ps [0] body ((.ref a :: vs) ++ []) H1 Q E
  rw [List.append_nil]
  refine ⟨by rw [List.length_cons, r1.len, hl _ _ _ e1]; exact hj, _, W1, r, sl, e3, ?_⟩
  cases r with
  | ro d' s2 =>
    simp only [Option.map_eq_some_iff] at em
    obtain ⟨o', e4, em⟩ := em
    cases em
    intro p σ2 H2 W2 st2 k2 p2 rr nn hf
    have hp : H1 p = none := hf.elim id fun z => by
      have e := no p z.1
      exact absurd (by rw [e]; exact start_get rfl) (z.2 0 (by simp))
    obtain ⟨g1, g2⟩ := st1.back es ha k2 st2 no hne (own_end (sc := s2) (σ := σ) (H := H) st2 p2 e4)
    exact q p H2 W2 g1 (k1.trans g2) rr (fun ⟨i', u, e5, e6⟩ => by
      by_cases z : i = i'
      · subst z
        rw [ha] at e6; cases e6
        exact hne hp
      · rw [List.getElem?_set_ne z] at e5
        exact st1.notOwn hp ⟨i', u, e5, e6⟩) (k1.fresh hp)
  | _ => cases em
end
section
variable {X : Cx} {k n i : Nat} {f : Addr} {fd : FuncData} {N ps : List Str} {body : MS} {x y : Str} {p pos p2 : Pos} {e : Expr} {es : List Expr} {ms : M (List D)} {mo : M O}
theorem e_lend (i : Nat) {j : Nat} (F : FnOk X.prog X.w X.K X.mg X.base CX0 k f fd ps (spM X.K X.mg N ps [0] body)) (hr : Room k X.A) (hg : Gl X x) (hm : X.mg x = some (.ref f)) (hk : PySem.W.keepIn X.K (.ref f) = true) (hb : Binds X.K fd ps [])
    (hn : N.length = n) (hy : PE X (.Name y p2) (tVar i)) (hs : LA X es ms) (hl : LenIs ms j) (hj : j + 1 = ps.length) (hdb : (x == ("__debug__" : Str)) = false := by decide) (he : starEach (.Name y p2 :: es) X.env = (false, eval (.Name y p2) X.env) :: starEach es X.env := by rfl) (hpl : (backTo pos (starEach es X.env)).any (·.1) = false := by rfl) :
    DE X (.Call (.Name x p) (.Name y p2 :: es) [] pos) (lendD n body i ms) := PE.imp (pe_call F hr hg hm hk hb .nil pass0 (pa_cons hy hs he) hdb he hpl) fun σ H Q h => t_lendD (E := E0) hn hl hj h
theorem o_lend (i : Nat) {j : Nat} (F : FnOk X.prog X.w X.K X.mg X.base CX0 k f fd ps (spM X.K X.mg N ps [0] body)) (hr : Room k X.A) (hg : Gl X x) (hm : X.mg x = some (.ref f)) (hk : PySem.W.keepIn X.K (.ref f) = true) (hb : Binds X.K fd ps [])
    (hn : N.length = n) (hy : PE X (.Name y p2) (tVar i)) (hs : LA X es ms) (hl : LenIs ms j) (hj : j + 1 = ps.length) (hdb : (x == ("__debug__" : Str)) = false := by decide) (he : starEach (.Name y p2 :: es) X.env = (false, eval (.Name y p2) X.env) :: starEach es X.env := by rfl) (hpl : (backTo pos (starEach es X.env)).any (·.1) = false := by rfl) :
    OE X (.Call (.Name x p) (.Name y p2 :: es) [] pos) (lendO n body i ms) := PE.imp (pe_call F hr hg hm hk hb .nil pass0 (pa_cons hy hs he) hdb he hpl) fun σ H Q h => t_lendO (E := E0) hn hl hj h
/-- f(e), e a new object that f gets for its own -/
def giveD (n : Nat) (body : MS) (m : M O) : M D := fun s => (m s).bind fun q => (callR n body [.own q.1]).bind fun r => match r with
  | .rd d _ => some (d, q.2)
  | .nx _ => some (.non, q.2)
  | _ => none
theorem t_giveD {K : PySem.W.Frag} {mg : Str → Option Value} {E : XK} (hn : N.length = n) (hj : 1 = ps.length) {σ : L2.St} {H : Hp} {Q : VK} (h : tD K mg (giveD n body mo) σ H Q) : tCall (spM K mg N ps [0] body) [] E (tCons (tO K mg mo) tNil) σ H Q := by
  obtain ⟨sd, W, d, sd', st, em, q⟩ := h
  simp only [giveD, Option.bind_eq_some_iff] at em
  obtain ⟨⟨o, s1⟩, e1, r, e2, em⟩ := em
  refine ⟨sd, W, o, s1, st, e1, fun a H1 W1 st1 k1 ro nn hp => ?_⟩
  obtain ⟨sl, no⟩ := st1.lend (N := N) (n := n) (ds := []) (vs := []) hn .nil ro
  refine ⟨hj, _, W1, r, sl, e2, ?_⟩
  have fin : ∀ {s2 : S} {σ2 : L2.St} {H2 W2 : Hp}, St K mg s2 σ2 H2 W2 → Kp (startS n (.own o :: List.map A.d [])) (L2.start N [.ref a]) H1 W1 s2 σ2 H2 W2 → St K mg s1 σ H2 W2 ∧ Kp sd σ H W s1 σ H2 W2 := fun {s2 σ2 H2 W2} st2 k2 => by
    have ne : ∀ b, b ≠ a → ¬ Own (startS n (.own o :: List.map A.d [])) (L2.start N [.ref a]) b := fun b z y => z (no b y)
    refine ⟨⟨st2.tabs, st2.le, st1.len, fun j d h => ?_, fun j u h => ?_, st1.inj⟩, ⟨k1.le.trans k2.le, fun x u h z t => ?_, fun x h h' z => ?_, k1.own, fun x h => k2.there x (k1.there x h)⟩⟩
    · obtain ⟨v, e, r⟩ := st1.dat j d h
      exact ⟨v, e, r.le k2.le⟩
    · obtain ⟨x, e, w1, r1⟩ := st1.own j u h
      have nx : x ≠ a := fun z => nn ⟨j, u, h, z ▸ e⟩
      cases u with
      | lst ds =>
        obtain ⟨vs, q1, q2⟩ := r1
        exact ⟨x, e, k2.new x w1 (by rw [q1]; simp) (ne x nx), vs, k2.keep _ _ q1 (ne x nx) rfl, q2.le k2.le⟩
      | obj c fs =>
        obtain ⟨C, dx, gs, q0, q1, q2⟩ := r1
        exact ⟨x, e, k2.new x w1 (by rw [q1]; simp) (ne x nx), C, dx, gs, q0, k2.keep _ _ q1 (ne x nx) rfl, q2.le k2.le⟩
      | dic kvs =>
        obtain ⟨gs, q1, q2⟩ := r1
        exact ⟨x, e, k2.new x w1 (by rw [q1]; simp) (ne x nx), gs, k2.keep _ _ q1 (ne x nx) rfl, q2.le k2.le⟩
      | dit kvs =>
        obtain ⟨gs, q1, q2⟩ := r1
        exact ⟨x, e, k2.new x w1 (by rw [q1]; simp) (ne x nx), gs, k2.keep _ _ q1 (ne x nx) rfl, q2.le k2.le⟩
    · have nx : x ≠ a := ne_of_none h hp
      exact k2.keep x u (k1.keep x u h z t) (ne x nx) t
    · have nx : x ≠ a := fun y => h' (y ▸ hp)
      exact k2.new x (k1.new x h h' z) (k1.there x h') (ne x nx)
  cases r with
  | rd d' s2 =>
    cases em
    intro v σ2 H2 W2 st2 k2 _ rr
    obtain ⟨g1, g2⟩ := fin st2 k2
    exact q v H2 W2 g1 g2 rr
  | nx s2 =>
    cases em
    intro σ2 H2 W2 st2 k2 _
    obtain ⟨g1, g2⟩ := fin st2 k2
    exact q _ H2 W2 g1 g2 .non
  | _ => cases em
end
end Fli
set_option Elab.async false
set_option linter.all false
set_option maxRecDepth 100000
set_option maxHeartbeats 4000000
namespace Fli
open PySem PySem.Spec PyProof.Rows L2
variable [HW]

/-! defs that are called where no repr is under way -/
structure FnG (P : Program) (w : World) (K : PySem.W.Frag) (mg : Str → Option Value) (base : Heap)
    (k : Nat) (f : Addr) (fd : FuncData) (ps : List Str) (sp : Sp) : Prop where
  len : ∀ {vs H Q E}, sp vs H Q E → vs.length = ps.length
  run : ∀ {A : Around} {outer : List Env} {s : Shared} {H : Hp} {args : Args}
    {us : List Value} {vs : List V} {Q : VK} {E : XK}, A.guards = some [] → Room k A →
    Env0 P w K mg base A outer s H → BindsTo s fd args (ps.zip us) → Vals vs us → sp vs H Q E →
    codeAny (model P w) A (.call (.ref f) args) (CR CX0 outer P w H s Q E) s

section
variable {P : Program} {w : World} {K : PySem.W.Frag} {mg : Str → Option Value} {base : Heap}
theorem g_ok {x qual : Str} {st : Stmt} {f : Addr} {fd : FuncData} {N ps : List Str} {k : Nat} {pr : List Nat} {body : MS}
    (F : Fun K x qual st f fd) (Sc : FnScope N ps (defScope st))
    (hb : ∀ (cdv : Value) (A : Around) (outer : List Env) (s : Shared) (H : Hp) (E : XK), A.guards = some [] →
      Room k (A.deeper (PyProof.Rows.envOfC qual (defScope st) s.heap.objs.size f cdv)) →
      SEs (cxOf CX0 P w K mg base N qual (defScope st) f cdv A outer s H E).nox pr (defBody st) body) :
    FnG P w K mg base (k + 1) f fd ps (spM K mg N ps pr body) := by
  obtain ⟨oc, od, kV, doc, pm, an, cdv, ct, osl, rfl, lk, hcd⟩ := F.ex
  constructor
  · intro vs H Q E h; exact h.1
  intro A outer s H args us vs Q E hg hr env bind rel prom
  have inK : K.In s.heap := env.mod.kin.keeps fun b o q => (env.bs b o q).1
  have free : s.heap.NoLimit := env.mod.nolimit.keeps fun b o q => (env.bs b o q).1
  have kinds : ∀ y ∈ ps.zip us, (defScope st).names.lookup y.1 = some .local ∨
      ((defScope st).names.lookup y.1 = some .cell ∧
        ((cellsFrom (s.heap.objs.size + 1) (defScope st).names []).lookup y.1).isSome = true) := by
    rintro ⟨a, b⟩ hy
    exact (Sc.par a (List.of_mem_zip hy).1).imp id fun z => ⟨z, PySem.W.cellsFrom_some _ _ _ (.inl z)⟩
  refine codeAny_call_function hr.depth (inK _ _ lk) rfl Sc.co Sc.gen rfl
    (PySem.W.codeRec_of inK hcd) (bind _ _ _ _ ?_)
  refine wpAny_newFunctionEnv_cells Sc.kind kinds fun env' he s1 x => ?_
  subst he
  refine ⟨free.keeps x.toInCall.keep, codeAny_func ?_⟩
  have body_ok := (hb cdv A outer s H E hg (hr.deeper _)).nox
  have inv : Inv (cxOf CX0 P w K mg base N qual (defScope st) f cdv A outer s H E) [] (L2.start N vs) H s1 :=
    inv_start Sc hr.hd env prom.1 rel x
  refine wpAny_mono (body_ok.run [] s1 (L2.start N vs) H _ inv prom.2) (fun fl s' z => ?_) fun _ _ z => z
  cases fl with
  | next =>
    obtain ⟨a, b, J, q⟩ := z
    exact ⟨.non, b, J.os, J.bare, J.base, J.hok, rfl, q⟩
  | ret u =>
    obtain ⟨v, a, b, J, r, q⟩ := z
    exact ⟨v, b, J.os, J.bare, J.base, J.hok, r, q⟩
  | brk => obtain ⟨_, _, _, q⟩ := z; exact q.elim
  | cont => obtain ⟨_, _, _, q⟩ := z; exact q.elim
end

section
variable {X : Cx} {k n : Nat} {f : Addr} {fd : FuncData} {N ps : List Str} {sp : Sp} {body : MS} {x : Str} {p pos : Pos} {e : Expr} {es : List Expr} {t : TA} {mo : M O}
theorem pe_callG (F : FnG X.prog X.w X.K X.mg X.base k f fd ps sp) (gd : X.A.guards = some []) (hr : Room k X.A) (hg : Gl X x) (hm : X.mg x = some (.ref f))
    (hk : PySem.W.keepIn X.K (.ref f) = true) (hb : Binds X.K fd ps []) (ha : PA X (e :: es) t) (hdb : (x == ("__debug__" : Str)) = false := by decide)
    (he : starEach (e :: es) X.env = (false, eval e X.env) :: starEach es X.env := by rfl)
    (hpl : (backTo pos (starEach es X.env)).any (·.1) = false := by rfl) :
    PE X (.Call (.Name x p) (e :: es) [] pos) (tCall sp [] E0 t) := by
  constructor
  intro pins s σ H Q I h
  refine wpAny_Call_Name_kw (ld_glob I hg hm (PySem.W.callWith_K (h₀ := X.base) I.ok.mod.kin hk ?_ he hpl) hdb)
  refine thn (ha.run pos pins s σ H _ I h) ?_
  rintro us s1 ⟨vs, H1, I1, r, q⟩
  refine ⟨I1.kIn, ?_⟩
  rw [List.append_nil] at q
  have hl : us.length = ps.length := by rw [← r.length]; exact F.len q
  have hbind := hb s1 us I1.kIn (by rw [List.append_nil]; exact hl)
  rw [List.append_nil] at hbind
  refine wpAny_call (codeAny_mono (F.run gd hr I1.env0 hbind r q) ?_)
  intro res s2 hres
  cases res with
  | error er => exact pass0 pins σ H1 s1 er s2 I1 hres
  | ok fl => cases fl with
    | ret u => exact I1.after hres
    | next => exact hres.elim
    | brk => exact hres.elim
    | cont => exact hres.elim
theorem e_giveG (F : FnG X.prog X.w X.K X.mg X.base k f fd ps (spM X.K X.mg N ps [0] body)) (gd : X.A.guards = some []) (hr : Room k X.A) (hg : Gl X x) (hm : X.mg x = some (.ref f))
    (hk : PySem.W.keepIn X.K (.ref f) = true) (hb : Binds X.K fd ps []) (hn : N.length = n) (hj : 1 = ps.length) (ha : OE X e mo) (hdb : (x == ("__debug__" : Str)) = false := by decide)
    (he : starEach [e] X.env = (false, eval e X.env) :: starEach [] X.env := by rfl) (hpl : (backTo pos (starEach [] X.env)).any (·.1) = false := by rfl) :
    DE X (.Call (.Name x p) [e] [] pos) (giveD n body mo) := PE.imp (pe_callG F gd hr hg hm hk hb (pa_cons ha pa_nil he) hdb he hpl) fun σ H Q h => t_giveD (E := E0) hn hj h
end

/-! repr -/
section
variable {X : Cx}
def rRepr (K : PySem.W.Frag) : List V → Hp → VK → Prop := fun xs H Q => ∃ v d, xs = [v] ∧ Dp K H v d ∧ d.showable = true ∧ d.hasDict = false ∧ isDisplay d = true ∧ d.depth ≤ 64 ∧ d.shown.length ≤ sizeLine ∧ Q (.str d.shown) H
theorem call_repr (gd : X.A.guards = some []) (hu : X.A.units + 66 < cLine) : CallR X (.builtin "repr") (rRepr X.K) := by
  intro pins s σ H xs us Q I r h
  obtain ⟨v, d, rfl, hd, h1, h2, h3, h4, h5, q⟩ := h
  cases r with
  | cons r rr =>
    cases rr
    rename_i u
    obtain ⟨as, rd⟩ := Dp.reads I d v u hd r
    obtain ⟨a, rfl⟩ := isRef_of_reads rd h3
    refine repr_of_reads' rd h1 (PyData.noDict_hsm h2) gd (by omega) (fun _ _ e => e) (fun h' u tk hk => ?_) h5
    exact ⟨.str d.shown, H, I.kept hk, ⟨_, rfl⟩, q⟩
def reprD : List D → Option D
  | [d] => (toPy d).bind fun p => if p.showable = true ∧ p.hasDict = false ∧ isDisplay p = true ∧ p.depth ≤ 64 ∧ p.shown.length ≤ sizeLine then some (.str p.shown) else none
  | _ => none
end
end Fli
set_option Elab.async false
set_option linter.all false
set_option maxRecDepth 100000
set_option maxHeartbeats 4000000
namespace Fli
open PySem PySem.Spec PyProof.Rows L2
variable [HW]

/-! the law's own call -/
/-- the tables are left out -/
def unT (H : Hp) : Hp := fun b => match H b with
  | some (.tbl _) => none
  | y => y
theorem unT_at {H : Hp} {b : Addr} {o : HO} (h : H b = some o) (n : nt o = true) : unT H b = some o := by
  unfold unT
  rw [h]
  cases o <;> first | rfl | cases n
theorem unT_le {H : Hp} : Le (unT H) H := fun b o h => by
  unfold unT at h
  split at h
  · cases h
  · exact h
theorem unT_nt {H : Hp} (b : Addr) (ps : Array Value) : unT H b ≠ some (.tbl ps) := fun h => by
  unfold unT at h
  split at h
  · cases h
  · rename_i q
    exact q ps h
theorem unT_tbl {H : Hp} {b : Addr} {ps : Array Value} (h : H b = some (.tbl ps)) : unT H b = none := by
  unfold unT
  rw [h]
theorem unT_sl {K : PySem.W.Frag} {H : Hp} {a : Addr} {xs : List V} (h : SqL K H a xs) : SqL K (unT H) a xs := by
  rcases h with (h | ⟨o, h⟩) | h
  · exact .inl (.inl (unT_at h rfl))
  · exact .inl (.inr ⟨o, unT_at h rfl⟩)
  · exact .inr h
end Fli
set_option Elab.async false
set_option linter.all false
set_option maxRecDepth 100000
set_option maxHeartbeats 4000000
namespace Fli
open PySem L2
variable [HW]

/-! objects of own classes -/
def fldD (c f : Str) : D → Option D
  | .ins c' fs => if c' = c then fs.lookup f else none
  | _ => none
def putD (f : Str) (x : D) : List (Str × D) → List (Str × D)
  | [] => [(f, x)]
  | (n, y) :: r => if n = f then (n, x) :: r else (n, y) :: putD f x r
section
variable {K : PySem.W.Frag} {mg : Str → Option Value} {W : Hp}
theorem DFs.look {f : Str} {d : D} : ∀ {gs : List (Str × V)} {fs : List (Str × D)}, DFs K mg W gs fs → fs.lookup f = some d → ∃ v, gs.lookup f = some v ∧ DR K mg W v d
  | _, _, .nil, h => by cases h
  | _, _, @DFs.cons _ _ _ _ n v gs e fs r s, h => by
    rw [List.lookup_cons] at h ⊢
    cases q : f == n with
    | true =>
      rw [q] at h
      cases h
      exact ⟨v, rfl, r⟩
    | false => rw [q] at h; exact DFs.look s h
theorem DFs.put {f : Str} {x : V} {d : D} (r : DR K mg W x d) : ∀ {gs : List (Str × V)} {fs : List (Str × D)}, DFs K mg W gs fs → DFs K mg W (putF f x gs) (putD f d fs)
  | _, _, .nil => .cons r .nil
  | _, _, @DFs.cons _ _ _ _ n v gs e fs r' s => by
    unfold putF putD
    by_cases q : n = f
    · rw [if_pos q, if_pos q]; exact .cons r s
    · rw [if_neg q, if_neg q]; exact .cons r' (DFs.put r s)
theorem DFs.len : ∀ {gs : List (Str × V)} {fs : List (Str × D)}, DFs K mg W gs fs → gs.length = fs.length
  | _, _, .nil => rfl
  | _, _, .cons _ s => by simp [DFs.len s]
end
section
variable {X : Cx} {e : Expr} {pos p2 : Pos} {c f x : Str} {C : Addr} {pr : List Nat}
theorem e_fld {m : M D} (h : DE X e m) (cl : Cls X.K C) (na : NoAttr X.K C f) (hm : X.mg c = some (.ref C)) (hb : attributeBase e f X.env (eval e X.env) = eval e X.env := by rfl) : DE X (.Attribute e f pos) (bindM m fun d => optM (fldD c f d)) := PE.imp (pe_fld h hb) fun σ H Q ⟨sd, W, d, sd', st, em, q⟩ => by
  obtain ⟨y, s1, e1, em⟩ := bindM_some em
  obtain ⟨e2, rfl⟩ := optM_some em
  refine ⟨sd, W, y, sd', st, e1, fun v H1 W1 st1 k1 r => ?_⟩
  unfold fldD at e2
  split at e2
  · split at e2
    · rename_i hc
      subst hc
      cases r with
      | ins m1 g1 r1 =>
        rw [hm] at m1
        cases m1
        obtain ⟨w, e3, r3⟩ := r1.look e2
        exact ⟨_, _, _, _, w, rfl, st1.le _ _ g1, cl, na, e3, q w H1 W1 st1 k1 r3⟩
    · cases e2
  · cases e2
/-- self.f = e, self under way in slot i -/
def setFM (i : Nat) (c f : Str) (m : M D) : MS := fun s => (m s).bind fun q => match slotO i q.2 with
  | some (.obj c' fs) => if c' = c ∧ fs.length < 1000 then some (.nx (q.2.set i (some (.own (.obj c (putD f q.1 fs)))))) else none
  | _ => none
end

/-- behind a call that was given a new object -/
theorem St.give {K : PySem.W.Frag} {mg : Str → Option Value} {sd s1 sc s2 : S} {σ σc σ2 : L2.St} {H W H1 W1 H2 W2 : Hp} {a : Addr} (st1 : St K mg s1 σ H1 W1) (k1 : Kp sd σ H W s1 σ H1 W1) (nn : ¬ Own s1 σ a) (hp : H a = none)
    (st2 : St K mg s2 σ2 H2 W2) (k2 : Kp sc σc H1 W1 s2 σ2 H2 W2) (no : ∀ b, Own sc σc b → b = a) : St K mg s1 σ H2 W2 ∧ Kp sd σ H W s1 σ H2 W2 := by
  have ne : ∀ b, b ≠ a → ¬ Own sc σc b := fun b z y => z (no b y)
  refine ⟨⟨st2.tabs, st2.le, st1.len, fun j d h => ?_, fun j u h => ?_, st1.inj⟩, ⟨k1.le.trans k2.le, fun x u h z t => ?_, fun x h h' z => ?_, k1.own, fun x h => k2.there x (k1.there x h)⟩⟩
  · obtain ⟨v, e, r⟩ := st1.dat j d h
    exact ⟨v, e, r.le k2.le⟩
  · obtain ⟨x, e, w1, r1⟩ := st1.own j u h
    have nx : x ≠ a := fun z => nn ⟨j, u, h, z ▸ e⟩
    cases u with
    | lst ds =>
      obtain ⟨vs, q1, q2⟩ := r1
      exact ⟨x, e, k2.new x w1 (by rw [q1]; simp) (ne x nx), vs, k2.keep _ _ q1 (ne x nx) rfl, q2.le k2.le⟩
    | obj c fs =>
      obtain ⟨C, dx, gs, q0, q1, q2⟩ := r1
      exact ⟨x, e, k2.new x w1 (by rw [q1]; simp) (ne x nx), C, dx, gs, q0, k2.keep _ _ q1 (ne x nx) rfl, q2.le k2.le⟩
    | dic kvs =>
      obtain ⟨gs, q1, q2⟩ := r1
      exact ⟨x, e, k2.new x w1 (by rw [q1]; simp) (ne x nx), gs, k2.keep _ _ q1 (ne x nx) rfl, q2.le k2.le⟩
    | dit kvs =>
      obtain ⟨gs, q1, q2⟩ := r1
      exact ⟨x, e, k2.new x w1 (by rw [q1]; simp) (ne x nx), gs, k2.keep _ _ q1 (ne x nx) rfl, q2.le k2.le⟩
  · have nx : x ≠ a := ne_of_none h hp
    exact k2.keep x u (k1.keep x u h z t) (ne x nx) t
  · have nx : x ≠ a := fun y => h' (y ▸ hp)
    exact k2.new x (k1.new x h h' z) (k1.there x h') (ne x nx)

def mkR (n : Nat) (body : MS) (c : Str) (as : List D) : Option O := (callR n body (.own (.obj c []) :: as.map .d)).bind fun o => match o with
  | .nx s2 => (firstO s2).bind fun o' => match o' with
    | .obj c' fs => if c' = c then some (.obj c fs) else none
    | _ => none
  | _ => none
def mkO (n : Nat) (body : MS) (c : Str) (ms : M (List D)) (g : List D → List D) : M O := bindM ms fun xs => optM (mkR n body c (g xs))
section
variable {K : PySem.W.Frag} {mg : Str → Option Value} {N ps : List Str} {n : Nat} {body : MS} {c : Str} {C : Addr} {E : XK}
theorem mk_core (hn : N.length = n) (hm : mg c = some (.ref C)) {sd s1 : S} {σ : L2.St} {H W H2 W2 : Hp} {vs : List V} {xs : List D} {o : O} {Q : VK} (st : St K mg s1 σ H2 W2) (k : Kp sd σ H W s1 σ H2 W2) (r : DRs K mg W2 vs xs) (hl : vs.length + 1 = ps.length) (em : mkR n body c xs = some o)
    (q : ∀ p H' W', St K mg s1 σ H' W' → Kp sd σ H W s1 σ H' W' → OR K mg H' W' p o → ¬ Own s1 σ p → H p = none → Q (.ref p) H') :
    ∀ x dx, H2 x = none → H2 dx = none → dx ≠ x → spM K mg N ps [0] body (.ref x :: vs) (upd (upd H2 dx (.own x)) x (.ins C dx [])) (fun v H' => v = .non ∧ Q (.ref x) H') E := by
  intro x dx hx hdx ne
  simp only [mkR, Option.bind_eq_some_iff] at em
  obtain ⟨out, e1, em⟩ := em
  obtain ⟨g1, g2⟩ := st.newO hdx (.own x)
  have hx' : (upd H2 dx (.own x)) x = none := by rw [upd_ne (Ne.symm ne)]; exact hx
  obtain ⟨g3, g4⟩ := g1.newO hx' (.ins C dx [])
  have ro : OR K mg (upd (upd H2 dx (.own x)) x (.ins C dx [])) W2 x (.obj c []) := ⟨st.free hx, C, dx, [], hm, upd_same, .nil⟩
  obtain ⟨sl, no⟩ := g3.lend (N := N) hn r ro
  refine ⟨hl, _, W2, out, sl, e1, ?_⟩
  cases out with
  | nx s2 =>
    simp only [Option.bind_eq_some_iff] at em
    obtain ⟨o', e2, em⟩ := em
    intro σ2 H3 W3 st3 k3 p3
    have re := own_end (sc := s2) (σ := σ) (H := H) st3 p3 e2
    split at em
    · split at em
      · rename_i hc
        subst hc
        cases em
        have kk := (k.trans g2).trans g4
        obtain ⟨f1, f2⟩ := St.give (a := x) g3 kk (fun z => st.notOwn hx z) (k.fresh hx) st3 k3 no
        exact ⟨rfl, q x H3 W3 f1 f2 re (fun z => st.notOwn hx z) (k.fresh hx)⟩
      · cases em
    · cases em
  | _ => cases em
end
section
variable {X : Cx} {k n : Nat} {f C : Addr} {fd : FuncData} {N ps ks : List Str} {body : MS} {dvs : List V} {dd : List D} {ds : List Value} {x : Str} {p pos : Pos} {e : Expr} {es : List Expr} {ms : M (List D)}
theorem o_make {j : Nat} (Mx : Mk X.K C f) (F : FnOk X.prog X.w X.K X.mg X.base CX0 k f fd ps (spM X.K X.mg N ps [0] body)) (hr : Room (k + 1) X.A) (hg : Gl X x) (hm : X.mg x = some (.ref C)) (hb : Binds X.K fd ps ds) (hd : Vals dvs ds)
    (hdd : ∀ W, DRs X.K X.mg W dvs dd) (hn : N.length = n) (hs : LA X (e :: es) ms) (hl : LenIs ms j) (hj : j + dd.length + 1 = ps.length) (hdb : (x == ("__debug__" : Str)) = false := by decide) (he : starEach (e :: es) X.env = (false, eval e X.env) :: starEach es X.env := by rfl) (hpl : (backTo pos (starEach es X.env)).any (·.1) = false := by rfl) :
    OE X (.Call (.Name x p) (e :: es) [] pos) (mkO n body x ms fun xs => xs ++ dd) := PE.imp (pe_make (E := E0) Mx F hr hg hm hb hd pass0 hs hdb he hpl) fun σ H Q ⟨sd, W, o, sd', st, em, q⟩ => by
  obtain ⟨xs, s1, e1, em⟩ := bindM_some em
  obtain ⟨e2, rfl⟩ := optM_some em
  refine ⟨sd, W, xs, sd', st, e1, fun vs H1 W1 st1 k1 r1 => ?_⟩
  have r2 := r1.app (hdd W1)
  refine mk_core hn hm st1 k1 r2 ?_ e2 q
  rw [r2.len, List.length_append, hl _ _ _ e1]; exact hj
/-- an argument list by keywords -/
abbrev LK (X : Cx) (kws : List Keyword) (m : M (List D)) : Prop := PK X kws (tL X.K X.mg m)
theorem lk_nil : LK X [] (retM []) := ⟨fun pos pins s σ H Q I ⟨sd, W, d, sd', st, em, q⟩ => by
  cases em
  exact (pk_nil (X := X)).run pos pins s σ H Q I (q _ H W st Kp.refl .nil)⟩
theorem lk_cons {nm : Option Str} {kpos : Pos} {kws : List Keyword} {m : M D} (h : DE X e m) (hs : LK X kws ms) : LK X (⟨nm, e, kpos⟩ :: kws) (bindM m fun d => bindM ms fun ds => retM (d :: ds)) := ⟨fun pos pins s σ H Q I ⟨sd, W, d, sd', st, em, q⟩ => by
  obtain ⟨x, s1, e1, em⟩ := bindM_some em
  obtain ⟨xs, s2, e2, em⟩ := bindM_some em
  cases em
  exact (pk_cons h hs).run pos pins s σ H Q I ⟨sd, W, x, s1, st, e1, fun v H1 W1 st1 k1 r1 => ⟨s1, W1, xs, sd', st1, e2, fun vs H2 W2 st2 k2 r2 => q _ H2 W2 st2 (k1.trans k2) (.cons (r1.le k2.le) r2)⟩⟩⟩
end
end Fli
set_option Elab.async false
set_option linter.all false
set_option maxRecDepth 100000
set_option maxHeartbeats 4000000
namespace Fli
open PySem PySem.Spec PyProof.Rows L2
variable [HW]
open AutoSeq1 (wpAny_loadPart')

/-! enumerate over a tuple -/
section
variable {prog : Program} {w : World} {A : Around} {E : Value → Shared → Prop} {s : Shared}
abbrev tupIt (t : Addr) : Obj := { cls := .type "tuple_iterator", data := .fields #[.ref t, .int 0 0] }
abbrev enumObj (i : Addr) : Obj := { cls := .type "enumerate", data := .fields #[.none, .bool false, .ref i, rawInt 0, .none, .none] }
theorem enum_newT (t : Addr) (items : Array Value) (n : Nat) (dct : Option Addr) (sl : Array (Option Value)) :
    Meets (Builtin.«enumerate.__new__» ⟨[.type "enumerate", .ref t], []⟩) (fun _ R s =>
      s.heap.get? t = some { cls := .type "tuple", dict := dct, data := .seq items n, slots := sl } ∧
      R (.ok (.ret (.ref (s.heap.push (tupIt t)).objs.size))) { s with heap := (s.heap.push (tupIt t)).push (enumObj s.heap.objs.size) }) := by
  refine .of_wp fun prog w A R s h => ?_
  obtain ⟨hp, g, d, tk, os⟩ := s
  obtain ⟨ht, h⟩ := h
  have hsub := sub_enumerate
  have hT : Heap.IsTuple (Shared.heap ⟨hp, g, d, tk, os⟩) t items := ⟨_, ht, rfl, n, rfl⟩
  wp_walk using wpAny_loadPart' ht
  refine wpAny_stack_any fun st => wpAny_pure ?_
  split
  · rename_i c _ _ _ _ _
    cases (c == Value.type "enumerate")
    all_goals
      wp_walk using wpAny_loadPart' ht, wpAny_pyIter_tuple hT
      exact ⟨_, rfl, h⟩
  · wp_walk using wpAny_loadPart' ht, wpAny_pyIter_tuple hT
    exact ⟨_, rfl, h⟩
theorem call_enumT {t : Addr} {items : Array Value} {Q : Value → Shared → Prop} (ht : s.heap.IsTuple t items)
    (h : ∀ h', IsEnum h' (s.heap.objs.size + 1) s.heap.objs.size 0 .none → h'.IsTupleIter s.heap.objs.size t 0 →
      (∀ b o, s.heap.get? b = some o → h'.get? b = some o) → Q (.ref (s.heap.objs.size + 1)) { s with heap := h' }) :
    wpAny (model prog w) A (call (.type "enumerate") [.ref t]) Q E s := by
  obtain ⟨⟨c, dct, dt, sl⟩, hl, hc, n, hd⟩ := ht
  have hc : c = .type "tuple" := hc
  have hd : dt = .seq items n := hd
  subst hc
  subst hd
  refine callType_new F.called_enumerate (by decide) (F.typeCall_enumerate_1 _) (F.newCall_enumerate_1 _)
    (fun obj => F.args_object_init_2 obj _) F.entry_enumerate_new (enum_newT t items n dct sl) ⟨hl, ?_⟩
  have hz : (s.heap.push (tupIt t)).objs.size = s.heap.objs.size + 1 := Heap.size_push ..
  show _ ∧ _
  rw [hz]
  have he : IsEnum ((s.heap.push (tupIt t)).push (enumObj s.heap.objs.size)) (s.heap.objs.size + 1) s.heap.objs.size 0 .none := by
    have z := Heap.get?_push_size (s.heap.push (tupIt t)) (o := enumObj s.heap.objs.size) rfl
    rw [hz] at z
    exact z
  exact ⟨⟨_, he, rfl⟩, h _ he ⟨_, Heap.get?_push_of_some _ (Heap.get?_push_size _ rfl), rfl, rfl⟩
    fun b o x => Heap.get?_push_of_some _ (Heap.get?_push_of_some _ x)⟩
end

def IteT (K : PySem.W.Frag) (a : Addr) : It where
  go := fun i H => ∃ (xs : List V) (x : V), SqT K H a xs ∧ xs[i]? = some x
  yld := fun i H v H' => ∃ (T : Addr) (x : V), v = .ref T ∧ H T = none ∧ H' = upd H T (.tup [.int (i : Nat), x]) ∧ ∀ xs, SqT K H a xs → xs[i]? = some x
  stop := fun i H => ∃ xs : List V, SqT K H a xs ∧ xs.length ≤ i
theorem turn_enumT {P : Program} {w : World} {K : PySem.W.Frag} {elts : List Expr} {kk : Nat} {tpos : Pos} (a e it : Addr) :
    L2.Turn P w K (.Tuple elts kk tpos) (IteT K a) [e, it] e
      (fun i h => (∃ old, IsEnum h e it ((i : Nat) : Int) old) ∧ h.IsTupleIter it a i ∧ e ≠ it) := by
  refine { mem := by simp, obj := ?_, keep := ?_, item := ?_, done := ?_, self := ?_ }
  · rintro i h ⟨⟨old, he⟩, ⟨o, ho, hc, hd⟩, _⟩ b hb
    rcases (show b = e ∨ b = it by simpa using hb) with rfl | rfl
    · exact ⟨_, he, fun v q => nomatch q⟩
    · exact ⟨o, ho, fun v q => by rw [hd] at q; cases q⟩
  · rintro i h h' ⟨⟨old, he⟩, hi, hne⟩ k
    exact ⟨⟨old, k e (by simp) _ he⟩, hi.at fun o q => k it (by simp) o q, hne⟩
  · intro X hP hw hK hc i pins s σ H E I hf st hg
    subst hP
    subst hw
    subst hK
    obtain ⟨⟨old, he⟩, hit, hne⟩ := st
    obtain ⟨xs, x, hq, hx⟩ := hg
    obtain ⟨its, rv, p, hz⟩ := I.tuple hq
    obtain ⟨u, hu, ru⟩ := rv.get hx
    obtain ⟨oa, hoa, hca, _⟩ := id p
    obtain ⟨oi, hoi, hci, _⟩ := id hit
    have nea : e ≠ a := by
      rintro rfl
      rw [he] at hoa
      cases hoa
      injection hca with z
      exact absurd z (by decide)
    have nia : a ≠ it := by
      rintro rfl
      rw [hoi] at hoa
      cases hoa
      rw [hci] at hca
      injection hca with z
      exact absurd z (by decide)
    have lte : e < s.heap.objs.size := Heap.lt_size he
    have lti : it < s.heap.objs.size := Heap.lt_size hoi
    have hui : its.toArray[i]? = some u := by simpa using hu
    have hlt : i < its.toArray.size := (Array.getElem?_eq_some_iff.mp hui).1
    refine wpAny_pyNext_enum_itemD (Draws.tuple (A := X.A.in1) (I.ok.hd hc) it a nia its.toArray) he ⟨hit, p⟩ hlt hne (by simp [hne, nea]) ?_
    intro y h' tk hy ho st' hT hsz hk
    have hy : its.toArray[i]? = some y := hy
    rw [hui] at hy
    cases hy
    refine ⟨_, rfl, wpAny_letOwnedTupleGo_enum (s := { s with heap := h', toks := tk + 1 }) ho ?_⟩
    intro h2 he2 sb
    have hT2 : h2.get? s.heap.objs.size = some { cls := .type "tuple", data := .seq #[.int i tk, u] } := (sb.2 _ (Nat.ne_of_gt lte)).trans hT
    have new : ObjOk X.prog X.w (upd H s.heap.objs.size (.tup [.int (i : Nat), x])) h2 s.heap.objs.size (.tup [.int (i : Nat), x]) :=
      ⟨show 2 ≤ sizeLine by decide, [.int i tk, u], .cons ⟨_, rfl⟩ (.cons ru .nil), ⟨_, hT2, rfl, _, rfl⟩⟩
    have I1 : Inv X pins σ (upd H s.heap.objs.size (.tup [.int (i : Nat), x])) { s with heap := h2, toks := tk + 1 } := by
      refine I.turnedNew (ch := [e, it]) ?_ hf (Nat.le_refl _) new
      intro b ob hb q
      have b1 : b ≠ e := fun z => hb (by simp [z])
      have b2 : b ≠ it := fun z => hb (by simp [z])
      exact (sb.2 b b1).trans (hk b ob b1 b2 q)
    refine ⟨.ref s.heap.objs.size, _, I1, rfl, ⟨_, x, rfl, I.hok.fresh (Nat.le_refl _), rfl, ?_⟩, ⟨⟨u, ?_⟩, st'.1.at fun o q => (sb.2 it (Ne.symm hne)).trans q, hne⟩, ?_⟩
    · intro ys hy
      rw [I.tuple_inj hy hq]
      exact hx
    · rw [show ((i + 1 : Nat) : Int) = (i : Int) + 1 by omega]
      exact he2
    · intro b hb
      have lb : b < s.heap.objs.size := by
        rcases (show b = e ∨ b = it by simpa using hb) with rfl | rfl
        · exact lte
        · exact lti
      rw [upd_ne (Nat.ne_of_lt lb)]
      exact (hf b hb).1
  · intro X hP hw hK hc i pins s σ H E I hf st hg
    subst hP
    subst hw
    subst hK
    obtain ⟨⟨old, he⟩, hit, hne⟩ := st
    obtain ⟨xs, hq, hx⟩ := hg
    obtain ⟨its, rv, p, hz⟩ := I.tuple hq
    obtain ⟨oa, hoa, hca, _⟩ := id p
    obtain ⟨oi, hoi, hci, _⟩ := id hit
    have nia : a ≠ it := by
      rintro rfl
      rw [hoi] at hoa
      cases hoa
      rw [hci] at hca
      injection hca with z
      exact absurd z (by decide)
    obtain ⟨f0, f1, f2, f3, f4, f5⟩ := hf it (by simp)
    have hl := rv.length
    have D : Draws X.prog X.w X.A.in1 it [it, a] i (fun _ _ => True) (fun j h => j = i ∧ h.IsTupleIter it a i ∧ h.IsTuple a its.toArray) := by
      refine ⟨?_, ?_, ?_, ?_⟩
      · rintro j h ⟨_, ⟨o, ho, _⟩, _⟩
        exact ⟨o, ho⟩
      · rintro j h h' ⟨z, s1, s2⟩ k
        exact ⟨z, s1.at fun o e => k it (by simp) o e, s2.at fun o e => k a (by simp) o e⟩
      · rintro j s Q E hj ⟨z, _⟩
        omega
      · rintro s Q E ⟨_, s1, s2⟩ hE
        exact wpAny_nextOf_tuple_end (I.ok.hd hc) s1 s2 (by simp; omega) hE
    refine wpAny_pyNext_enum_endD D he ⟨rfl, hit, p⟩ ?_
    intro h' eb
    exact ⟨rfl, I.turned (t' := s.toks) (fun b o hb q => eb b o hb q) f0 f1 f3 f4 f5⟩
  · intro A i s Q E st q
    obtain ⟨⟨old, he⟩, _⟩ := st
    exact wpAny_pyIter_enum he q
def iEnumT (K : PySem.W.Frag) (ta : TA) : TI := fun σ H R => ta σ H fun vs H1 => ∃ a xs, vs = [.ref a] ∧ SqT K H1 a xs ∧ R (IteT K a) H1
theorem pi_enumT {X : Cx} {e : Expr} {ta : TA} {p pos tpos : Pos} {elts : List Expr} {kk : Nat} (hg : Gl X "enumerate") (hm : X.mg "enumerate" = none) (ha : PA X [e] ta)
    (hs : starEach [e] X.env = [(false, eval e X.env)] := by rfl) : PI X (.Tuple elts kk tpos) (.Call (.Name "enumerate" p) [e] [] pos) (iEnumT X.K ta) := by
  constructor
  intro pins s σ H R I h
  refine Call_ (ld_blt I hg hm boot_enumerate (PyProof.Rows.callWith_type1 (thn (ha.run pos pins s σ H _ I h) ?_) hs rfl))
  rintro us s1 ⟨vs, H1, I1, r1, a, xs, rfl, hq, q⟩
  obtain ⟨u, rfl, ru⟩ := vals1 r1
  cases ru
  obtain ⟨its, rv, p', hz⟩ := I1.tuple hq
  refine call_enumT p' fun h' he hit hk => wpAny_pyIter_enum he ?_
  refine ⟨s1.heap.objs.size + 1, [s1.heap.objs.size + 1, s1.heap.objs.size], _, _, H1, rfl, I1.kept (t' := s1.toks) hk,
    turn_enumT a (s1.heap.objs.size + 1) s1.heap.objs.size, ⟨⟨.none, he⟩, hit, Nat.succ_ne_self _⟩, ?_, q⟩
  intro b hb
  have hle : s1.heap.objs.size ≤ b := by
    rcases (show b = s1.heap.objs.size + 1 ∨ b = s1.heap.objs.size by simpa using hb) with rfl | rfl
    · exact Nat.le_succ _
    · exact Nat.le_refl _
  exact I1.fpOk hle (I1.hok.fresh hle)
end Fli
set_option Elab.async false
set_option linter.all false
set_option maxRecDepth 100000
set_option maxHeartbeats 4000000
namespace Fli
open PySem PySem.Spec PyProof.Rows L2
variable [HW]

/-! for i, x in enumerate(t) -/
def enumD (ds : List D) : List D := ds.mapIdx fun i d => .tup [.int (i : Int), d]
theorem enumD_get {ds : List D} {i : Nat} {d : D} (h : ds[i]? = some d) : (enumD ds)[i]? = some (.tup [.int (i : Int), d]) := by
  unfold enumD
  rw [List.getElem?_mapIdx, h]; rfl
section
variable {K : PySem.W.Frag} {mg : Str → Option Value} {pr : List Nat} {D : Ends} {sd : S} {σ : L2.St} {H W : Hp} {out : Out} {gs : TGs} {fs : List Fli.D → S → Option S} {m : MS}
theorem Turn.oneE {items : List Fli.D} {i : Nat} {d : Fli.D} {x : V} {σ' : L2.St} {H' : Hp} {T : Addr} (hg : TGs' K mg pr gs fs) (q : Post K mg pr D sd σ H W out) (hd : items[i]? = some (.tup [.int (i : Int), d])) (t : Turn K mg pr sd σ H W (tupF 2 fs) m items out i σ' H')
    (hx : ∀ W', Le W W' → DR K mg W' x d) (hT : H' T = none) : gTup K 2 gs (.ref T) σ' (upd H' T (.tup [.int (i : Int), x])) fun σ2 H2 => tM K mg pr m { nx := Turn K mg pr sd σ H W (tupF 2 fs) m items out (i + 1), rt := D.rt, bk := D.nx, ct := Turn K mg pr sd σ H W (tupF 2 fs) m items out (i + 1) } σ2 H2 := by
  obtain ⟨sd', W', st, k, p, em⟩ := t
  have hl : i < items.length := (List.getElem?_eq_some_iff.mp hd).1
  have hd' : items[i] = .tup [.int (i : Int), d] := (List.getElem?_eq_some_iff.mp hd).2
  rw [List.drop_eq_getElem_cons hl, hd'] at em
  simp only [loopM, Option.bind_eq_some_iff] at em
  obtain ⟨s1, e1, o, e2, em⟩ := em
  obtain ⟨g1, g2⟩ := st.newO hT (.tup [.int (i : Int), x])
  have e1 : fs [.int (i : Int), d] sd' = some s1 := e1
  refine ⟨T, _, rfl, .inl (.inl upd_same), rfl, hg _ _ sd' s1 σ' _ W' g1 (.cons (.int _) (.cons (hx W' k.le) .nil)) e1 _ fun σ1 H1 W1 st1 k1 p1 => ⟨s1, W1, o, st1, e2, ?_⟩⟩
  have k' := (k.trans g2).trans k1
  have p' := p.trans p1
  cases o with
  | nx s2 => exact fun σ2 H2 W2 st2 k2 p2 => ⟨s2, W2, st2, k'.trans k2, p'.trans p2, em⟩
  | ct s2 => exact fun σ2 H2 W2 st2 k2 p2 => ⟨s2, W2, st2, k'.trans k2, p'.trans p2, em⟩
  | bk s2 =>
    cases em
    exact fun σ2 H2 W2 st2 k2 p2 => q σ2 H2 W2 st2 (k'.trans k2) (p'.trans p2)
  | rd d s2 =>
    cases em
    exact fun v σ2 H2 W2 st2 k2 p2 r => q v σ2 H2 W2 st2 (k'.trans k2) (p'.trans p2) r
  | ro o s2 =>
    cases em
    exact fun v σ2 H2 W2 st2 k2 p2 r n e => q v σ2 H2 W2 st2 (k'.trans k2) (p'.trans p2) r n (Fr.back k' p' e)
end
def tupLs : D → Option (List D)
  | .tup ds => some ds
  | _ => none
def forE (mi : M D) (fs : List D → S → Option S) (m : MS) : MS := fun s => (mi s).bind fun q => (tupLs q.1).bind fun ds => loopM (tupF 2 fs) m (enumD ds) q.2
section
variable {X : Cx} {pr : List Nat} {e tg : Expr} {sts : List Stmt} {pos p tpos : Pos} {elts : List Expr} {kk : Nat} {gs : TGs} {fs : List D → S → Option S} {m : MS} {mi : M D}
theorem s_forE {p3 : Pos} (hi : DE X e mi) (hr : Gl X "enumerate") (hm : X.mg "enumerate" = none) (hg : PG X (.Tuple elts kk tpos) (gTup X.K 2 gs)) (hf : TGs' X.K X.mg pr gs fs) (hb : SEs X pr sts m) (hc : X.calm = true) (hp : PassesOwn (model X.prog X.w) X.A X.env X.xe)
    (hs : starEach [e] X.env = [(false, eval e X.env)] := by rfl) (he : starEach (e :: []) X.env = (false, eval e X.env) :: starEach [] X.env := by rfl) : SE X pr (.For (.Tuple elts kk tpos) (.Call (.Name "enumerate" p) [e] [] p3) sts [] pos) (forE mi fs m) := PS.imp (ps_for hp hc (pi_enumT hr hm (pa_cons hi pa_nil he) hs) hg hb) fun D σ H ⟨sd, W, out, st, em, q⟩ => by
  simp only [forE, Option.bind_eq_some_iff] at em
  obtain ⟨⟨d, s1⟩, e1, ds, e2, em⟩ := em
  refine ⟨sd, W, d, s1, st, e1, fun v H1 W1 st1 k1 r1 => ?_⟩
  cases d with
  | tup es =>
    cases e2
    cases r1 with
    | @tup a vs _ sa ra =>
      have qq := q.behind k1 Pr.refl
      refine ⟨a, vs, rfl, st_le st1.le sa, fun i m' σ' H' => Turn X.K X.mg pr s1 σ H1 W1 (tupF 2 fs) m (enumD ds) out i σ' H' ∧ m' + i = vs.length, ⟨vs.length, ⟨s1, W1, st1, Kp.refl, Pr.refl, em⟩, rfl⟩, ?_⟩
      rintro i m' σ' H' ⟨t, hm'⟩
      have sq : SqT X.K H' a vs := by
        obtain ⟨sd', W', st', k', _, _⟩ := t
        exact st_le (k'.le.trans st'.le) sa
      have lenE : (enumD ds).length = vs.length := by unfold enumD; rw [List.length_mapIdx]; exact ra.len.symm
      by_cases hi : i < vs.length
      · refine .inr ⟨⟨vs, vs[i], sq, by simp [hi]⟩, fun σ2 H2 => Turn X.K X.mg pr s1 σ H1 W1 (tupF 2 fs) m (enumD ds) out (i + 1) σ2 H2, fun σ2 H2 n => ⟨m' - 1, by omega, n, by omega⟩, ?_⟩
        rintro x H2 ⟨T, y, rfl, hT, rfl, hy⟩
        obtain ⟨d, hd, rd⟩ := ra.get' (hy vs sq)
        exact Turn.oneE hf qq (enumD_get hd) t (fun W' le => rd.le le) hT
      · exact .inl ⟨⟨vs, sq, by omega⟩, Turn.done (by omega) qq t⟩
  | _ => cases e2
end

/-! isinstance -/
def tyD : D → Option String
  | .non => some "NoneType"
  | .bl _ => some "bool"
  | .int _ => some "int"
  | .str _ => some "str"
  | .tup _ => some "tuple"
  | .lst _ => some "list"
  | .scr _ => some "list"
  | .ins _ _ => none
  | .cls _ => none
  | .dic _ => none
  | .dit _ => none
  | .ptr _ => none
  | .exc _ _ _ => none
def tyE : D → Option String
  | .dic _ => some "dict"
  | d => tyD d
def isB (T : String) (d : D) : Option D := (tyE d).bind fun t => (kitB t T).map .bl
def isC (c : Str) (d : D) : Option D := match d with
  | .ins c' _ => if c' = c then some (.bl true) else none
  | d => (tyD d).map fun _ => .bl false
theorem ty_of {K : PySem.W.Frag} {mg : Str → Option Value} {H W : Hp} {v : V} {d : D} {t : String} (le : Le W H) (r : DR K mg W v d) (h : tyD d = some t) : TyX K H v (.type t) := by
  cases r with
  | non => cases h; exact .base .non
  | bl b => cases h; exact .base (.bl b)
  | int i => cases h; exact .base (.int i)
  | str x => cases h; exact .base (.str x)
  | tup s r =>
    cases h
    rcases s with ⟨ob, s, _⟩ | ⟨o, its, n, h1, h2, _⟩
    · exact .fTuple (le _ _ s)
    · exact .kTuple h1 h2
  | lst s r => cases h; exact .base (.lst (le _ _ s))
  | scr s =>
    cases h
    rcases s with (s | ⟨o, s⟩) | ⟨o, its, n, h1, h2, _⟩
    · exact .base (.lst (le _ _ s))
    · exact .base (.frz (le _ _ s))
    · exact .kList h1 h2
  | ins _ _ _ => cases h
  | cls _ => cases h
  | dic _ _ => cases h
  | dit _ _ => cases h
  | ptr => cases h
  | exc _ _ => cases h
theorem tyE_of {K : PySem.W.Frag} {mg : Str → Option Value} {H W : Hp} {v : V} {d : D} {t : String} (le : Le W H) (r : DR K mg W v d) (h : tyE d = some t) : TyX K H v (.type t) := by
  unfold tyE at h
  split at h
  · cases h
    cases r with
    | dic s _ =>
      rcases s with s | ⟨o, s⟩
      · exact .base (.dK (le _ _ s))
      · exact .fDict (le _ _ s)
  · exact ty_of le r h
/-- what is to be known of an own class for isinstance -/
structure InsTy (K : PySem.W.Frag) (C : Addr) : Prop where
  cl : Cls K C
  a : PySem.W.findIn K (.ref C) "__class__" = some (some (.builtin "object.__class__"))
  b : PySem.W.specialIn K (.builtin "object.__class__") "__get__" = some (some (.builtin "getset_descriptor.__get__"))
  c : PySem.W.takesIn K (.builtin "object.__class__") = some true
  d : PySem.W.mroIn K C (.type "object") = some true
section
variable {X : Cx} {e : Expr} {p pos p2 : Pos} {x : Str} {C : Addr} {m : M D}
theorem e_isB {T : String} {tn : Str} (h : DE X e m) (hg : Gl X "isinstance") (hm : X.mg "isinstance" = none) (ht : PE X (.Name tn p2) (tC (.ty T)))
    (he : starEach [e, .Name tn p2] X.env = (false, eval e X.env) :: starEach [.Name tn p2] X.env := by rfl) (he2 : starEach [.Name tn p2] X.env = (false, eval (.Name tn p2) X.env) :: starEach [] X.env := by rfl) (hpl : (backTo pos (starEach [.Name tn p2] X.env)).any (·.1) = false := by rfl) :
    DE X (.Call (.Name "isinstance" p) [e, .Name tn p2] [] pos) (bindM m fun d => optM (isB T d)) := PE.imp (pe_callB call_isi hg hm (by decide +kernel) (pa_cons h (pa_cons ht pa_nil he2) he) (by decide) (by decide) he hpl) fun σ H Q ⟨sd, W, z, sd', st, em, q⟩ => by
  obtain ⟨d, s1, e1, em⟩ := bindM_some em
  obtain ⟨e2, rfl⟩ := optM_some em
  refine ⟨sd, W, d, sd', st, e1, fun v H1 W1 st1 k1 r => ?_⟩
  simp only [isB, Option.bind_eq_some_iff, Option.map_eq_some_iff] at e2
  obtain ⟨t, ht, b, hb, rfl⟩ := e2
  exact ⟨v, .ty T, .type t, .type T, b, rfl, .ty T, tyE_of st1.le r ht, kit_ty hb, q _ H1 W1 st1 k1 (.bl b)⟩
end
end Fli
set_option Elab.async false
set_option linter.all false
set_option maxRecDepth 100000
set_option maxHeartbeats 4000000
namespace Fli
open PySem PySem.Spec PyProof.Rows L2
variable [HW]

/-! texts in lists and tuples -/
def strsD : List D → Option (List Str)
  | [] => some []
  | .str x :: ds => (strsD ds).map (x :: ·)
  | _ => none
theorem strs_rs {K : PySem.W.Frag} {mg : Str → Option Value} {W : Hp} : ∀ {vs : List V} {ds : List D} {ys : List Str}, DRs K mg W vs ds → strsD ds = some ys → vs = ys.map V.str
  | _, _, _, .nil, h => by cases h; rfl
  | _, _, _, .cons r s, h => by
    cases r <;> simp only [strsD] at h <;> try cases h
    simp only [Option.map_eq_some_iff] at h
    obtain ⟨ys, h, rfl⟩ := h
    rw [strs_rs s h]; rfl
def tixD : D → D → Option D
  | .tup ds, .str z => (strsD ds).bind fun ys => (ys.findIdx? (· == z)).map fun (j : Nat) => D.int (j : Int)
  | _, _ => none
def joinD : D → D → Option D
  | .str a, .lst ds => (strsD ds).bind fun ys => if (ys.map (·.length)).sum + ys.length * a.length ≤ 16777216 then some (.str (Txt.join a ys)) else none
  | .str a, .tup ds => (strsD ds).bind fun ys => if (ys.map (·.length)).sum + ys.length * a.length ≤ 16777216 then some (.str (Txt.join a ys)) else none
  | _, _ => none
section
variable {X : Cx} {o e : Expr} {apos pos p p2 : Pos} {ma mb m : M D} {x : Str} {pr : List Nat}
theorem e_join (ho : DE X o ma) (he : DE X e mb) (h1 : starEach [e] X.env = [(false, eval e X.env)] := by rfl) (h2 : attributeBase o "join" X.env (eval o X.env) = eval o X.env := by rfl) (h3 : (apos.endLine == pos.line) = true := by rfl) :
    DE X (.Call (.Attribute o "join" apos) [e] [] pos) (mBin joinD ma mb) := PE.imp (pe_join ho he h1 h2 h3) fun σ H Q ⟨sd, W, d, sd', st, em, q⟩ => by
  obtain ⟨a, s1, e1, em⟩ := bindM_some em
  obtain ⟨b, s2, e2, em⟩ := bindM_some em
  obtain ⟨e3, rfl⟩ := optM_some em
  refine ⟨sd, W, a, s1, st, e1, fun v H1 W1 st1 k1 r1 => ?_⟩
  unfold joinD at e3
  split at e3
  · cases r1
    refine ⟨⟨_, rfl⟩, s1, W1, _, sd', st1, e2, fun u H2 W2 st2 k2 r2 => ?_⟩
    simp only [Option.bind_eq_some_iff] at e3
    obtain ⟨ys, h, e3⟩ := e3
    split at e3
    · rename_i hz
      cases e3
      cases r2 with
      | lst s r =>
        have z := strs_rs r h
        subst z
        exact ⟨_, _, ys, rfl, rfl, .inl (.inl (.inl (st2.le _ _ s))), hz, q _ H2 W2 st2 (k1.trans k2) (.str _)⟩
    · cases e3
  · cases r1
    refine ⟨⟨_, rfl⟩, s1, W1, _, sd', st1, e2, fun u H2 W2 st2 k2 r2 => ?_⟩
    simp only [Option.bind_eq_some_iff] at e3
    obtain ⟨ys, h, e3⟩ := e3
    split at e3
    · rename_i hz
      cases e3
      cases r2 with
      | tup s r =>
        have z := strs_rs r h
        subst z
        exact ⟨_, _, ys, rfl, rfl, .inr (st_le st2.le s), hz, q _ H2 W2 st2 (k1.trans k2) (.str _)⟩
    · cases e3
  · cases e3
/-- t.index(x), t a tuple of texts -/
theorem e_tix (ho : DE X o ma) (he : DE X e mb) (hbase : attributeBase o "index" X.env (eval o X.env) = eval o X.env := by rfl)
    (hfew : ((((backTo pos (starEach [e] X.env)).all fun x => !x.1) && (backToKw pos (keywordEach [] X.env)).all fun x => x.1.isSome) && decide (([e].length + ([] : List Keyword).length + if ([] : List Keyword).isEmpty = true then 0 else 1) < 30)) = true := by rfl)
    (hline : (apos.endLine == pos.line) = true := by rfl) (hs : starEach [e] X.env = (false, eval e X.env) :: starEach [] X.env := by rfl) :
    DE X (.Call (.Attribute o "index" apos) [e] [] pos) (mBin tixD ma mb) := ⟨fun pins s σ H Q I ⟨sd, W, d, sd', st, em, q⟩ => by
  obtain ⟨a, s1, e1, em⟩ := bindM_some em
  obtain ⟨b, s2, e2, em⟩ := bindM_some em
  obtain ⟨e3, rfl⟩ := optM_some em
  refine wpAny_Call_method_late hbase hfew hline rfl (thn (ho.run pins s σ H (fun v H1 => ∃ W1, St X.K X.mg s1 σ H1 W1 ∧ Kp sd σ H W s1 σ H1 W1 ∧ DR X.K X.mg W1 v a) I ⟨sd, W, a, s1, st, e1, fun v H1 W1 st1 k1 r1 => ⟨W1, st1, k1, r1⟩⟩) ?_)
  rintro v t1 ⟨x, H1, I1, r1, W1, st1, k1, ra⟩
  unfold tixD at e3
  split at e3
  · rename_i ds z _
    cases ra with
    | @tup a vs _ sa rs =>
      cases r1
      have dn : ∃ ob, t1.heap.get? a = some ob ∧ ob.cls = .type "tuple" ∧ ob.dict = none := by
        rcases sa with ⟨ob, h, f1, f2⟩ | ⟨o, its, n, h1, h2, h3, _⟩
        · exact ⟨ob, (I1.hok _ _ (st1.le _ _ h)).1, f1, f2⟩
        · exact ⟨o, I1.kIn _ _ h1, h2, h3⟩
      obtain ⟨ob, g1, g2, g3⟩ := dn
      refine ⟨"tuple", "tuple.index", PySem.F.plainAttrs_tuple, PySem.F.slot_tuple_index, PySem.F.type_tuple_index, ⟨ob, g1, g2⟩, fun b hb => by cases hb; exact ⟨ob, g1, g3⟩, ?_⟩
      have hA := (pa_cons he (pa_nil (X := X)) hs).run pos pins t1 σ H1 (fun us H2 => ∃ W2 u, us = [u] ∧ St X.K X.mg sd' σ H2 W2 ∧ Kp s1 σ H1 W1 sd' σ H2 W2 ∧ DR X.K X.mg W2 u (.str z)) I1
        ⟨s1, W1, _, sd', st1, e2, fun u H2 W2 st2 k2 r2 => ⟨W2, u, rfl, st2, k2, r2⟩⟩
      rw [hs] at hA ⊢
      refine Calls.callWith_builtin rfl (Calls.evalArgs_plain (thn hA ?_))
      rintro us t2 ⟨ws, H2, I2, r2, W2, u, rfl, st2, k2, ru⟩
      cases ru
      simp only [Option.bind_eq_some_iff, Option.map_eq_some_iff] at e3
      obtain ⟨ys, h, j, hj, rfl⟩ := e3
      have zz := strs_rs rs h
      subst zz
      rw [List.findIdx?_eq_some_iff_getElem] at hj
      obtain ⟨hl, h1, h2⟩ := hj
      refine mt_tup_index pins t2 σ H2 (.ref a) [.str z] _ us Q I2 rfl r2 ⟨a, ys, z, j, rfl, rfl, st_le (k2.le.trans st2.le) sa, ?_, fun m hm e => ?_, q _ H2 W2 st2 (k1.trans k2) (.int _)⟩
      · rw [List.getElem?_eq_getElem hl]
        exact congrArg some (by simpa using h1)
      · obtain ⟨hl', e⟩ := List.getElem?_eq_some_iff.mp e
        have := h2 m hm
        rw [e] at this
        simp at this
  · cases e3⟩
/-! two and three targets at once -/
def parM (i j : Nat) (ms : M (List D)) : MS := fun s => (ms s).bind fun q => match q.1 with
  | [a, b] => some (.nx ((q.2.set i (some (.d a))).set j (some (.d b))))
  | _ => none
def parM3 (i j k : Nat) (ms : M (List D)) : MS := fun s => (ms s).bind fun q => match q.1 with
  | [a, b, c] => some (.nx (((q.2.set i (some (.d a))).set j (some (.d b))).set k (some (.d c))))
  | _ => none
theorem s_par {i j : Nat} {x y : Str} {a b : Expr} {ms : M (List D)} {px py pt : Pos} {kt k2 pt2} (hi : X.N[i]? = some x) (hj : X.N[j]? = some y) (hij : i ≠ j) (hx : X.env.scope.names.lookup x = some .local) (hy : X.env.scope.names.lookup y = some .local) (ha : LA X [a, b] ms) (h1 : i ∉ pr) (h2 : j ∉ pr) (hc : X.calm = true) (hN : X.N.Nodup)
    (hw : swappedStores [.Tuple [.Name x px, .Name y py] kt pt] (.Tuple [a, b] k2 pt2) X.env = pure (some [x, y]) := by rfl)
    (hs : swapsWithSole [.Tuple [.Name x px, .Name y py] kt pt] (.Tuple [a, b] k2 pt2) pos.line X.env = pure false := by rfl) :
    SE X pr (.Assign [.Tuple [.Name x px, .Name y py] kt pt] (.Tuple [a, b] k2 pt2) pos) (parM i j ms) := PS.imp (ps_par hc hN hi hj hij hx hy ha hw hs) fun D σ H ⟨sd, W, out, st, em, q⟩ => by
  simp only [parM, Option.bind_eq_some_iff] at em
  obtain ⟨⟨xs, s1⟩, e1, em⟩ := em
  refine ⟨sd, W, xs, s1, st, e1, fun vs H1 W1 st1 k1 r1 => ?_⟩
  split at em
  · rename_i a b hxs
    cases em
    have hxs : xs = [a, b] := hxs
    subst hxs
    cases r1 with
    | cons ra r1 =>
      cases r1 with
      | cons rb r1 =>
        cases r1
        obtain ⟨g1, g2⟩ := st1.setD ra i
        obtain ⟨g3, g4⟩ := g1.setD rb j
        exact ⟨_, _, rfl, q _ H1 W1 g3 ((k1.trans g2).trans g4) ((pr_set h1).trans (pr_set h2))⟩
  · cases em
end
/-! an own object becomes data, or is handed back -/
def frzN (i : Nat) : M D := fun s => match s[i]? with
  | some (some (.own o)) => some (o.d, s.set i (some (.d o.d)))
  | some (some (.d d)) => some (d, s)
  | _ => none
theorem St.frz {K : PySem.W.Frag} {mg : Str → Option Value} {sd : S} {σ : L2.St} {H W : Hp} {i : Nat} {o : O} (st : St K mg sd σ H W) (e : sd[i]? = some (some (.own o))) :
    ∃ a W', σ[i]? = some (some (.ref a)) ∧ St K mg (sd.set i (some (.d o.d))) σ H W' ∧ Kp sd σ H W (sd.set i (some (.d o.d))) σ H W' ∧ DR K mg W' (.ref a) o.d := by
  obtain ⟨a, ea, w, r⟩ := st.own i o e
  have hi : i < sd.length := (List.getElem?_eq_some_iff.mp e).1
  have ow : Own sd σ a := ⟨i, o, e, ea⟩
  have go : ∀ u, H a = some u → DR K mg (upd W a u) (.ref a) o.d → ∃ b W', σ[i]? = some (some (.ref b)) ∧ St K mg (sd.set i (some (.d o.d))) σ H W' ∧ Kp sd σ H W (sd.set i (some (.d o.d))) σ H W' ∧ DR K mg W' (.ref b) o.d := by
    intro u hu rd
    have back : ∀ (j : Nat) (v : O), (sd.set i (some (A.d o.d)))[j]? = some (some (A.own v)) → i ≠ j ∧ sd[j]? = some (some (A.own v)) := fun j v h => by
      by_cases z : i = j
      · subst z; rw [List.getElem?_set_self hi] at h; cases h
      · rw [List.getElem?_set_ne z] at h; exact ⟨z, h⟩
    refine ⟨a, upd W a u, ea, ⟨st.tabs.step (upd_nt fun ps z => Bool.noConfusion (OR.mt (o := o) ⟨w, r⟩ (.tbl ps) (by rw [hu, z])).1) (fun b ps e wb => ⟨e, by rw [upd_ne fun z => Bool.noConfusion (OR.mt (o := o) ⟨w, r⟩ (.tbl ps) (by rw [← z]; exact e)).1]; exact wb⟩) fun _ _ e => e, fun x y z => ?_, by rw [List.length_set]; exact st.len, fun j d h => ?_, fun j v h => ?_, fun j k v v' x h1 h2 => ?_⟩, ⟨Le.upd w, fun x y h _ _ => h, fun x h h' n => ?_, fun x ⟨j, v, h1, h2⟩ => ?_, fun x h => h⟩, rd⟩
    · by_cases q : x = a
      · subst q; rw [upd_same] at z; rw [← z]; exact hu
      · rw [upd_ne q] at z; exact st.le x y z
    · by_cases z : i = j
      · subst z
        rw [List.getElem?_set_self hi] at h; cases h
        exact ⟨_, ea, rd⟩
      · rw [List.getElem?_set_ne z] at h
        obtain ⟨v, e1, r1⟩ := st.dat j d h
        exact ⟨v, e1, r1.le (Le.upd w)⟩
    · obtain ⟨z, h⟩ := back j v h
      obtain ⟨x, e1, w1, r1⟩ := st.own j v h
      have ne : x ≠ a := fun q => z (st.inj i j o v a e h ea (q ▸ e1))
      refine ⟨x, e1, by rw [upd_ne ne]; exact w1, ?_⟩
      cases v with
      | lst ds => obtain ⟨vs, r1, r2⟩ := r1; exact ⟨vs, r1, r2.le (Le.upd w)⟩
      | obj cc fs => obtain ⟨C, dx, gs, r0, r1, r2⟩ := r1; exact ⟨C, dx, gs, r0, r1, r2.le (Le.upd w)⟩
      | dic kvs => obtain ⟨gs, r1, r2⟩ := r1; exact ⟨gs, r1, r2.le (Le.upd w)⟩
      | dit kvs => obtain ⟨gs, r1, r2⟩ := r1; exact ⟨gs, r1, r2.le (Le.upd w)⟩
    · obtain ⟨_, h1⟩ := back j v h1
      obtain ⟨_, h2⟩ := back k v' h2
      exact st.inj j k v v' x h1 h2
    · have ne : x ≠ a := fun z => n (z ▸ ow)
      rw [upd_ne ne]; exact h
    · obtain ⟨_, h1⟩ := back j v h1
      exact .inl ⟨j, v, h1, h2⟩
  cases o with
  | lst ds =>
    obtain ⟨vs, r1, r2⟩ := r
    exact go _ r1 (.lst upd_same (r2.le (Le.upd w)))
  | obj c fs =>
    obtain ⟨C, dx, gs, r0, r1, r2⟩ := r
    exact go _ r1 (.ins r0 upd_same (r2.le (Le.upd w)))
  | dic kvs =>
    obtain ⟨gs, r1, r2⟩ := r
    exact go _ r1 (.dic (.inl upd_same) (r2.le (Le.upd w)))
  | dit kvs =>
    obtain ⟨gs, r1, r2⟩ := r
    exact go _ r1 (.dit upd_same (r2.le (Le.upd w)))
section
variable {X : Cx} {pos p2 : Pos} {x : Str} {pr : List Nat}
theorem e_frzN (i : Nat) (hn : PE X (.Name x p2) (tVar i)) : DE X (.Name x p2) (frzN i) := PE.imp hn fun σ H Q ⟨sd, W, d, sd', st, em, q⟩ => by
  unfold frzN at em
  split at em
  · rename_i o e
    cases em
    obtain ⟨a, W', ea, g1, g2, r⟩ := st.frz e
    exact ⟨_, ea, q _ H W' g1 g2 r⟩
  · rename_i d' e
    cases em
    obtain ⟨v, ev, r⟩ := st.dat i _ e
    exact ⟨v, ev, q v H W st Kp.refl r⟩
  · cases em
end
end Fli
set_option Elab.async false
set_option linter.all false
set_option maxRecDepth 100000
set_option maxHeartbeats 4000000
namespace Fli
open PySem PySem.Spec PyProof.Rows L2
variable [HW]

/-! len, ==, truth, str of own objects -/
section
variable {X : Cx} {k : Nat} {f : Addr} {fd : FuncData} {ps : List Str} {sp : Sp}
/-- a def called by the machine itself -/
theorem run_at {A : Around} {pins : List (Addr × Obj)} {s : Shared} {σ : L2.St} {H : Hp} {us : List Value} {vs : List V} {Q : VK} {E : Value → Shared → Prop} (F : FnOk X.prog X.w X.K X.mg X.base CX0 k f fd ps sp) (hr : Room k A) (fr : A.frames = X.A.frames) (hb : Binds X.K fd ps [])
    (I : Inv X pins σ H s) (r : Vals vs us) (h : sp vs H Q E0) : wpAny (model X.prog X.w) A (call (.ref f) us) (EP X pins σ Q) E s := by
  have hl : us.length = ps.length := by rw [← r.length]; exact F.len _ _ _ _ h
  have hbind := hb s us I.kIn (by rw [List.append_nil]; exact hl)
  rw [List.append_nil] at hbind
  have e := I.env0
  have e0 : Env0 X.prog X.w X.K X.mg X.base A X.stack s H := ⟨by rw [fr]; exact e.frames, e.mod, e.bs, e.bsz, e.funs, e.frf, e.hok, e.bare⟩
  refine wpAny_call (codeAny_mono (F.run A X.stack s H ⟨us, []⟩ us vs Q E0 hr e0 hbind r h) ?_)
  intro res s2 hres
  cases res with
  | error er => exact hres.elim
  | ok fl => cases fl with
    | ret u => exact I.after hres
    | next => exact hres.elim
    | brk => exact hres.elim
    | cont => exact hres.elim
theorem inst_at {pins : List (Addr × Obj)} {s : Shared} {σ : L2.St} {H : Hp} {a C dx : Addr} {gs : List (Str × V)} (I : Inv X pins σ H s) (h : H a = some (.ins C dx gs)) : ∃ od, PySem.W.InstAt s.heap a (PySem.W.instObj C dx) C (some od) := by
  obtain ⟨mA, J, _⟩ := ins_get I.hok h
  obtain ⟨od, J, _⟩ := J.look
  exact ⟨od, J⟩
end
/-- what a method of one object gives, on data -/
def ownM (n : Nat) (body : MS) (as : List D) : Option D := (callR n body (as.map .d)).bind fun o => match o with
  | .rd d _ => some d
  | .nx _ => some .non
  | _ => none
theorem t_own {K : PySem.W.Frag} {mg : Str → Option Value} {N ps : List Str} {n : Nat} {body : MS} {sd : S} {σ : L2.St} {H W : Hp} {vs : List V} {as : List D} {d : D} {Q : VK} {E : XK} (hn : N.length = n) (hl : as.length = ps.length) (st : St K mg sd σ H W) (r : DRs K mg W vs as) (em : ownM n body as = some d)
    (q : ∀ v H' W', St K mg sd σ H' W' → Kp sd σ H W sd σ H' W' → DR K mg W' v d → Q v H') : spM K mg N ps [] body vs H Q E := by
  simp only [ownM, Option.bind_eq_some_iff] at em
  obtain ⟨o, e2, em⟩ := em
  refine ⟨by rw [r.len]; exact hl, startS n (as.map .d), W, o, st.call hn r, e2, ?_⟩
  cases o with
  | rd d' s2 =>
    cases em
    intro v σ2 H2 W2 st2 k2 _ r
    obtain ⟨g1, g2⟩ := st.after k2 st2 fun a => noown_start
    exact q v H2 W2 g1 g2 r
  | nx s2 =>
    cases em
    intro σ2 H2 W2 st2 k2 _
    obtain ⟨g1, g2⟩ := st.after k2 st2 fun a => noown_start
    exact q _ H2 W2 g1 g2 .non
  | _ => cases em
def insC (c : Str) : D → Option D
  | .ins c' fs => if c' = c then some (.ins c' fs) else none
  | _ => none
theorem insC_some {c : Str} {d z : D} (h : insC c d = some z) : z = d ∧ ∃ fs, d = .ins c fs := by
  unfold insC at h
  split at h
  · split at h
    · rename_i hc
      cases h; subst hc; exact ⟨rfl, _, rfl⟩
    · cases h
  · cases h
theorem ins_ref {K : PySem.W.Frag} {mg : Str → Option Value} {W : Hp} {v : V} {c : Str} {fs : List (Str × D)} {C : Addr} (hm : mg c = some (.ref C)) (r : DR K mg W v (.ins c fs)) : ∃ a dx gs, v = .ref a ∧ W a = some (.ins C dx gs) ∧ DFs K mg W gs fs := by
  cases r with
  | ins m1 g1 r1 =>
    rw [hm] at m1
    cases m1
    exact ⟨_, _, _, rfl, g1, r1⟩
def lenC (n : Nat) (body : MS) (c : Str) (x : D) : Option D := (insC c x).bind fun x => (ownM n body [x]).bind fun r => match r with
  | .int m => if 0 ≤ m ∧ m < 2 ^ 63 then some (.int m) else none
  | _ => none
def strC (n : Nat) (body : MS) (c : Str) (x : D) : Option D := (insC c x).bind fun x => (ownM n body [x]).bind fun r => match r with
  | .str m => some (.str m)
  | _ => none
def truC (n : Nat) (body : MS) (c : Str) (x : D) : Option Bool := (lenC n body c x).bind fun r => match r with
  | .int m => some (m != 0)
  | _ => none
section
variable {X : Cx} {k n : Nat} {f C : Addr} {fd : FuncData} {N ps : List Str} {body : MS} {c : Str} {e a b : Expr} {p pos : Pos} {m ma mb : M D}
theorem call_lenC {pins : List (Addr × Obj)} {s : Shared} {σ : L2.St} {H W : Hp} {sd : S} {A : Around} {v : V} {u : Value} {x z : D} {Q : VK} {E : Value → Shared → Prop} (F : FnOk X.prog X.w X.K X.mg X.base CX0 k f fd ps (spM X.K X.mg N ps [] body)) (hr : Room (k + 1) A) (fr : A.frames = X.A.frames) (hb : Binds X.K fd ps []) (hn : N.length = n) (h1 : ps.length = 1)
    (hm : X.mg c = some (.ref C)) (hs : PySem.W.findIn X.K (.ref C) "__len__" = some (some (.ref f))) (hf : PySem.W.isFn X.K (.ref f) = true) (I : Inv X pins σ H s) (st : St X.K X.mg sd σ H W) (r : DR X.K X.mg W v x) (ru : RelV v u) (em : lenC n body c x = some z)
    (q : ∀ w H' W', St X.K X.mg sd σ H' W' → Kp sd σ H W sd σ H' W' → DR X.K X.mg W' w z → Q w H') : wpAny (model X.prog X.w) A (call (.builtin "len") [u]) (EP X pins σ Q) E s := by
  simp only [lenC, Option.bind_eq_some_iff] at em
  obtain ⟨y, hy, r1, h2, em⟩ := em
  obtain ⟨rfl, fs, rfl⟩ := insC_some hy
  obtain ⟨a, dx, gs, rfl, g1, g2⟩ := ins_ref hm r
  cases ru
  obtain ⟨od, J⟩ := inst_at I (st.le _ _ g1)
  obtain ⟨fm, hF⟩ := I.fr
  cases r1 with
  | int mm =>
    dsimp only at em
    split at em
    · rename_i hz
      cases em
      refine PySem.W.len_K hF I.ok.mod.kin J hs hf (wpAny_mono (run_at F (Room.in1 hr) fr hb I (show Vals [.ref a] [.ref a] from .cons rfl .nil) (t_own (Q := fun w H' => w = .int mm ∧ ∃ W', St X.K X.mg sd σ H' W' ∧ Kp sd σ H W sd σ H' W') hn (by rw [h1]; rfl) st (.cons r .nil) h2 fun w H' W' st' k' r' => by
        cases r'; exact ⟨rfl, W', st', k'⟩)) ?_ fun _ _ z => z)
      rintro u s' ⟨w, H', I', rw, rfl, W', st', k'⟩
      obtain ⟨t, rfl⟩ := rw
      exact ⟨hz, .int mm, H', I'.tok _, ⟨_, rfl⟩, q _ H' W' st' k' (.int _)⟩
    · cases em
  | _ => cases em
theorem e_lenC (F : FnOk X.prog X.w X.K X.mg X.base CX0 k f fd ps (spM X.K X.mg N ps [] body)) (hr : Room (k + 1) X.A) (hb : Binds X.K fd ps []) (hn : N.length = n) (h1 : ps.length = 1) (hm : X.mg c = some (.ref C)) (hs : PySem.W.findIn X.K (.ref C) "__len__" = some (some (.ref f))) (hf : PySem.W.isFn X.K (.ref f) = true)
    (h : DE X e m) (hg : Gl X "len") (hl : X.mg "len" = none) (he : starEach [e] X.env = (false, eval e X.env) :: starEach [] X.env := by rfl) (hpl : (backTo pos (starEach [] X.env)).any (·.1) = false := by rfl) : DE X (.Call (.Name "len" p) [e] [] pos) (bindM m fun d => optM (lenC n body c d)) := ⟨fun pins s σ H Q I ⟨sd, W, z, sd', st, em, q⟩ => by
  obtain ⟨d, s1, e1, em⟩ := bindM_some em
  obtain ⟨e2, rfl⟩ := optM_some em
  refine wpAny_Call_Name_kw (ld_blt I hg hl PySem.boot_len (PyProof.Rows.callWith_builtin1 (thn ((pa_cons h (pa_nil (X := X)) he).run pos pins s σ H (fun us H1 => ∃ W1 v, us = [v] ∧ St X.K X.mg sd' σ H1 W1 ∧ Kp sd σ H W sd' σ H1 W1 ∧ DR X.K X.mg W1 v d) I ⟨sd, W, d, sd', st, e1, fun v H1 W1 st1 k1 r1 => ⟨W1, v, rfl, st1, k1, r1⟩⟩) ?_) he hpl))
  rintro us s1 ⟨ws, H1, I1, rv, W1, v, rfl, st1, k1, r1⟩
  obtain ⟨u, rfl, ru⟩ := vals1 rv
  exact call_lenC F hr rfl hb hn h1 hm hs hf I1 st1 r1 ru e2 fun w H2 W2 st2 k2 r2 => q w H2 W2 st2 (k1.trans k2) r2⟩
end
end Fli
set_option Elab.async false
set_option linter.all false
set_option maxRecDepth 100000
set_option maxHeartbeats 4000000
namespace Fli
open PySem PySem.Spec PyProof.Rows L2
variable [HW]

/-! operations on data of any kind, lists among it (what they give is data) -/
def addL : D → D → Option D
  | .lst as, .lst bs => if as.length + bs.length ≤ sizeLine then some (.lst (as ++ bs)) else none
  | a, b => addD a b
def slL (x : D) (lo hi : Option Int) : Option D := match x with
  | .lst ds => some (.lst (cutD ds lo hi))
  | .scr ns => some (.lst ((cutD ns lo hi).map .int))
  | .tup ds => some (.tup (cutD ds lo hi))
  | .str z => if z.length ≤ sizeLine then some (.str (cutS z lo hi)) else none
  | _ => none
section
variable {X : Cx} {a e : Expr} {pos p2 : Pos} {ma m : M D} {lo hi : Option Expr} {ml mh : M (Option Int)}
def rAddL (K : PySem.W.Frag) : R2 := orR (rAddD K) rCat
theorem op_addL : OpR X (binaryOp .Add) (rAddL X.K) := op_or op_addA op_cat
theorem rd_addL {K : PySem.W.Frag} {mg : Str → Option Value} : R2D K mg (rAddL K) addL := by
  intro x y z vx vy sd σ H W st hx hy hf Q q
  unfold addL at hf
  split at hf
  · split at hf
    · rename_i h
      cases hf
      cases hx with
      | lst sx rx =>
        cases hy with
        | lst sy ry =>
          have l1 := rx.len
          have l2 := ry.len
          refine .inr ⟨_, _, _, _, rfl, rfl, st.le _ _ sx, st.le _ _ sy, by rw [l1, l2]; exact h, fun p hp => ?_⟩
          obtain ⟨g1, g2⟩ := st.newV hp (.lst _)
          exact q _ _ _ g1 g2 (.lst upd_same ((rx.app ry).le (Le.upd (st.free hp))))
    · cases hf
  · exact .inl (rd_add x y z vx vy sd σ H W st hx hy hf Q q)
def rSlA' (K : PySem.W.Frag) : V → Option Int → Option Int → Hp → VK → Prop := fun x lo hi H Q => rSlL K x lo hi H Q ∨ rSlF K x lo hi H Q ∨ rSlS x lo hi H Q
theorem sl_any : SlR X (rSlA' X.K) := by
  intro pins s σ H x v vl vu lo hi sl Q I rx hs pl pu h
  rcases h with h | h | h
  · exact sl_list pins s σ H x v vl vu lo hi sl Q I rx hs pl pu h
  · exact sl_tupF pins s σ H x v vl vu lo hi sl Q I rx hs pl pu h
  · exact sl_str pins s σ H x v vl vu lo hi sl Q I rx hs pl pu h
theorem e_slA (ha : DE X a ma) (hl : IP X lo ml) (hh : IP X hi mh) : DE X (.Subscript a (.Slice lo hi none p2) pos) (slM slL ma ml mh) := PE.imp (pe_slice sl_any ha hl hh) fun σ H Q ⟨sd, W, d, sd', st, em, q⟩ => by
  obtain ⟨x, s1, e1, em⟩ := bindM_some em
  obtain ⟨l, s2, e2, em⟩ := bindM_some em
  obtain ⟨u, s3, e3, em⟩ := bindM_some em
  obtain ⟨e4, rfl⟩ := optM_some em
  refine ⟨sd, W, x, s1, st, e1, fun v H1 W1 st1 k1 r1 => ⟨s1, W1, l, s2, st1, e2, fun H2 W2 st2 k2 => ⟨s2, W2, u, sd', st2, e3, fun H3 W3 st3 k3 => ?_⟩⟩⟩
  have r3 := (r1.le k2.le).le k3.le
  have kk := (k1.trans k2).trans k3
  cases r3 with
  | @tup _ _ ds s r =>
    cases e4
    refine .inr (.inl ⟨_, _, rfl, st_le st3.le s, fun z => ?_, fun _ p ob hp ho => ?_⟩)
    · refine q _ H3 W3 st3 kk (.tup s ?_)
      have : cutD ds l u = ds := by
        unfold cutD
        rw [r.len] at z
        rw [z.1, z.2]; simp
      rw [this]; exact r
    · obtain ⟨g1, g2⟩ := st3.newV hp (.frz ob (.tup _))
      exact q _ _ _ g1 (kk.trans g2) (.tup (.inl ⟨ob, upd_same, ho⟩) ((cut_rs r).le (Le.upd (st3.free hp))))
  | lst s r =>
    cases e4
    refine .inl ⟨_, _, rfl, .inl (.inl (st3.le _ _ s)), fun p hp => ?_⟩
    obtain ⟨g1, g2⟩ := st3.newV hp (.lst _)
    exact q _ _ _ g1 (kk.trans g2) (.lst upd_same ((cut_rs r).le (Le.upd (st3.free hp))))
  | @scr _ ns s =>
    cases e4
    refine .inl ⟨_, _, rfl, sl_le st3.le s, fun p hp => ?_⟩
    obtain ⟨g1, g2⟩ := st3.newV hp (.lst (cutV (ns.map V.int) l u))
    have : cutV (ns.map V.int) l u = (cutD ns l u).map V.int := by
      unfold cutV cutD
      rw [List.length_map, List.map_take, List.map_drop]
    refine q _ _ _ g1 (kk.trans g2) (.lst upd_same ?_)
    rw [this]
    exact ints_rs
  | str z =>
    simp only [slL] at e4
    split at e4 <;> cases e4
    exact .inr (.inr ⟨_, rfl, by assumption, q _ H3 W3 st3 kk (.str _)⟩)
  | _ => cases e4

def blD : D → Option Bool
  | .bl b => some b
  | _ => none
theorem t_test {t : TE} {m : M D} {K : PySem.W.Frag} {mg : Str → Option Value} (h : ∀ σ H Q, tD K mg m σ H Q → t σ H Q) {σ : L2.St} {H : Hp} {Q : Bool → Hp → Prop} (q : tB K mg (bindM m fun d => optM (blD d)) σ H Q) : tTest t σ H Q := by
  obtain ⟨sd, W, k, sd', st, em, q⟩ := q
  obtain ⟨d, s1, e1, em⟩ := bindM_some em
  obtain ⟨e2, rfl⟩ := optM_some em
  refine h σ H _ ⟨sd, W, d, sd', st, e1, fun v H1 W1 st1 k1 r => ?_⟩
  cases d <;> cases e2
  cases r
  exact ⟨_, rfl, q H1 W1 st1 k1⟩
theorem b_cmp {b : Expr} {op : CmpOp} {r : R2} {f : D → D → Option D} {mb : M D} (ho : OpR X (compareOp op) r) (hr : R2D X.K X.mg r f) (ha : DE X a ma) (hb : DE X b mb) (hm : behindInMarks op b = false) : BT X (.Compare a [op] [b] pos) (bindM (mBin f ma mb) fun d => optM (blD d)) :=
  PT.imp (pt_cmpR ho ha hb hm) fun _ _ _ q => t_test (fun _ _ _ h => t_bin hr h) q
theorem b_chain {b c : Expr} {op op' : CmpOp} {r r' : R2} {f g : D → D → Option D} {mb mc : M D} (ho : OpR X (compareOp op) r) (ho' : OpR X (compareOp op') r') (hr : R2D X.K X.mg r f) (hr' : R2D X.K X.mg r' g) (ha : DE X a ma) (hb : DE X b mb) (hc : DE X c mc)
    (hm : lastMarks [op, op'] [b, c] = false := by rfl) : BT X (.Compare a [op, op'] [b, c] pos) (bindM (chM f g ma mb mc) fun d => optM (blD d)) :=
  PT.imp (pt_chain ho ho' ha hb hc hm) fun _ _ _ q => t_test (fun _ _ _ h => t_chain hr hr' h) q

section
variable {elt tg iter b1 : Expr} {ifs : List Expr} {scope : Scope} {own : List (Str × Nat)} {p p3 py spos : Pos} {g : TG} {asg : D → S → Option S} {c : M Bool} {i : Nat} {y : Str} {vs pr : List Nat} {ms : M (List D)}
/-- y = [e for x in ..], y a local name -/
theorem s_setLc1 (hvs : own.map (fun x => x.2) = vs) (hc : X.calm = true) (hN : X.N.Nodup) (hi : LA X [b1] ms) (hr : Gl X "range") (hm : X.mg "range" = none) (ok : BlkOk X.N X.env.scope scope own)
    (hg : ∀ (s : Shared) (H : Hp) (C : Addr) (cl : List (Str × Addr)) (fp : List Addr), PG (X.blk s H scope (compEnvC scope cl C X.env) fp) tg g) (hf : TGk X.K X.mg [] g asg) (hw : TGw vs g)
    (ht : ∀ (s : Shared) (H : Hp) (C : Addr) (cl : List (Str × Addr)) (fp : List Addr), PTs (X.blk s H scope (compEnvC scope cl C X.env) fp) ifs (Fli.tB X.K X.mg c))
    (he : ∀ (s : Shared) (H : Hp) (C : Addr) (cl : List (Str × Addr)) (fp : List Addr), PE (X.blk s H scope (compEnvC scope cl C X.env) fp) elt (tD X.K X.mg m)) (hy : X.N[i]? = some y) (hyl : X.env.scope.names.lookup y = some .local) (hp : i ∉ pr)
    (hs : starEach [b1] X.env = [(false, eval b1 X.env)] := by rfl) (hsw : swapsWith (.ListComp elt [⟨tg, .Call (.Name "range" p) [b1] [] p3, ifs, 0⟩] scope pos) (some (.Name y py)) spos.line X.env = pure true := by exact sw_true rfl rfl rfl (by decide +kernel)) :
    SE X pr (.Assign [.Name y py] (.ListComp elt [⟨tg, .Call (.Name "range" p) [b1] [] p3, ifs, 0⟩] scope pos) spos) (asgO (cplR ms rng1 vs asg c m) i) := by
  subst hvs
  exact PS.imp (ps_setLc hc hN hy hyl hsw (pi_range1 hr hm hi hs) ok hg ht he) fun D σ H h => t_cpl1 hf hw (t_asgO hp h)
end
end
end Fli
set_option Elab.async false
set_option linter.all false
set_option maxRecDepth 100000
set_option maxHeartbeats 4000000
namespace Fli
open PySem PySem.Spec PyProof.Rows L2
variable [HW]

def FunX (K : PySem.W.Frag) (mg : Str → Option Value) (x : Str) (st : Stmt) : Prop := ∃ f fd, Fun K x x st f fd ∧ mg x = some (.ref f)
def DefX (P : Program) (w : World) (K : PySem.W.Frag) (mg : Str → Option Value) (base : Heap) (k : Nat) (x : Str) (N ps : List Str) (pr : List Nat) (body : MS) : Prop :=
  ∃ f fd, FnOk P w K mg base CX0 k f fd ps (spM K mg N ps pr body) ∧ mg x = some (.ref f) ∧ PySem.W.keepIn K (.ref f) = true ∧ Binds K fd ps []
section
variable {X : Cx} {k n j : Nat} {N ps : List Str} {body : MS} {x y : Str} {p pos p2 : Pos} {e : Expr} {es : List Expr} {ms : M (List D)}
theorem e_callX (d : DefX X.prog X.w X.K X.mg X.base k x N ps [] body) (hr : Room k X.A) (hg : Gl X x) (hn : N.length = n) (hs : LA X (e :: es) ms) (hl : LenIs ms j) (hj : j = ps.length) (hdb : (x == ("__debug__" : Str)) = false := by decide) (he : starEach (e :: es) X.env = (false, eval e X.env) :: starEach es X.env := by rfl) (hpl : (backTo pos (starEach es X.env)).any (·.1) = false := by rfl) :
    DE X (.Call (.Name x p) (e :: es) [] pos) (callD n body ms []) := by
  obtain ⟨f, fd, F, hm, hk, hb⟩ := d
  exact e_call F hr hg hm hk hb .nil (fun _ => .nil) hn hs hl hj hdb he hpl
theorem o_callX (d : DefX X.prog X.w X.K X.mg X.base k x N ps [] body) (hr : Room k X.A) (hg : Gl X x) (hn : N.length = n) (hs : LA X (e :: es) ms) (hl : LenIs ms j) (hj : j = ps.length) (hdb : (x == ("__debug__" : Str)) = false := by decide) (he : starEach (e :: es) X.env = (false, eval e X.env) :: starEach es X.env := by rfl) (hpl : (backTo pos (starEach es X.env)).any (·.1) = false := by rfl) :
    OE X (.Call (.Name x p) (e :: es) [] pos) (callO n body ms []) := by
  obtain ⟨f, fd, F, hm, hk, hb⟩ := d
  exact o_call F hr hg hm hk hb .nil (fun _ => .nil) hn hs hl hj hdb he hpl
theorem e_lendX (i : Nat) (d : DefX X.prog X.w X.K X.mg X.base k x N ps [0] body) (hr : Room k X.A) (hg : Gl X x) (hn : N.length = n) (hy : PE X (.Name y p2) (tVar i)) (hs : LA X es ms) (hl : LenIs ms j) (hj : j + 1 = ps.length) (hdb : (x == ("__debug__" : Str)) = false := by decide) (he : starEach (.Name y p2 :: es) X.env = (false, eval (.Name y p2) X.env) :: starEach es X.env := by rfl) (hpl : (backTo pos (starEach es X.env)).any (·.1) = false := by rfl) :
    DE X (.Call (.Name x p) (.Name y p2 :: es) [] pos) (lendD n body i ms) := by
  obtain ⟨f, fd, F, hm, hk, hb⟩ := d
  exact e_lend i F hr hg hm hk hb hn hy hs hl hj hdb he hpl
theorem o_lendX (i : Nat) (d : DefX X.prog X.w X.K X.mg X.base k x N ps [0] body) (hr : Room k X.A) (hg : Gl X x) (hn : N.length = n) (hy : PE X (.Name y p2) (tVar i)) (hs : LA X es ms) (hl : LenIs ms j) (hj : j + 1 = ps.length) (hdb : (x == ("__debug__" : Str)) = false := by decide) (he : starEach (.Name y p2 :: es) X.env = (false, eval (.Name y p2) X.env) :: starEach es X.env := by rfl) (hpl : (backTo pos (starEach es X.env)).any (·.1) = false := by rfl) :
    OE X (.Call (.Name x p) (.Name y p2 :: es) [] pos) (lendO n body i ms) := by
  obtain ⟨f, fd, F, hm, hk, hb⟩ := d
  exact o_lend i F hr hg hm hk hb hn hy hs hl hj hdb he hpl
end
/-- the built-in names that the module leaves alone -/
structure Txt (K : PySem.W.Frag) (mg : Str → Option Value) : Prop where
  len : mg "len" = none
  int : mg "int" = none
  abs : mg "abs" = none
  range : mg "range" = none
  min : mg "min" = none
  max : mg "max" = none
  tuple : mg "tuple" = none
  list : mg "list" = none
  all : mg "all" = none
  repr : mg "repr" = none
  isinstance : mg "isinstance" = none
  enumerate : mg "enumerate" = none
  str : mg "str" = none
  bool : mg "bool" = none
end Fli
set_option Elab.async false
set_option linter.all false
set_option maxRecDepth 100000
set_option maxHeartbeats 4000000
namespace Fli
open PySem PySem.Spec PyProof.Rows L2
variable [HW]

/-! constants of the module -/
def ConD (K : PySem.W.Frag) (mg : Str → Option Value) (x : Str) (d : D) : Prop := ∃ v u, mg x = some u ∧ RelV v u ∧ ∀ W, DR K mg W v d
theorem con_int {K : PySem.W.Frag} {mg : Str → Option Value} {x : Str} {i : Int} {t : Tok} (h : mg x = some (.int i t)) : ConD K mg x (.int i) := ⟨.int i, _, h, ⟨t, rfl⟩, fun _ => .int i⟩
theorem con_str {K : PySem.W.Frag} {mg : Str → Option Value} {x y : Str} {t : Tok} (h : mg x = some (.str y t)) : ConD K mg x (.str y) := ⟨.str y, _, h, ⟨t, rfl⟩, fun _ => .str y⟩
theorem str_drs {K : PySem.W.Frag} {mg : Str → Option Value} {W : Hp} : ∀ {ys : List Str}, DRs K mg W (ys.map V.str) (ys.map D.str)
  | [] => .nil
  | _ :: _ => .cons (.str _) str_drs
/-- a tuple of texts that the module holds -/
theorem con_tup {K : PySem.W.Frag} {mg : Str → Option Value} {x : Str} {a : Addr} {its : Array Value} {sl : Array (Option Value)} {ys : List Str} (h : mg x = some (.ref a)) (l : K.lookup a = some ⟨.type "tuple", none, .seq its 0, sl⟩) (hz : its.size ≤ sizeLine) (r : Vals (ys.map V.str) its.toList) : ConD K mg x (.tup (ys.map D.str)) :=
  ⟨.ref a, _, h, rfl, fun _ => .tup (.inr ⟨_, its, 0, l, rfl, rfl, rfl, hz, r⟩) str_drs⟩
section
variable {X : Cx} {e a b : Expr} {x : Str} {p pos apos p2 : Pos} {d : D} {ma mb m : M D} {pr : List Nat} {st : Stmt}
theorem ConD.dE (c : ConD X.K X.mg x d) (hg : Gl X x) (hd : (x == ("__debug__" : Str)) = false := by decide) : DE X (.Name x pos) (retM d) := by
  obtain ⟨v, u, h1, h2, h3⟩ := c
  exact e_glob hg h1 h2 h3 hd
/-- a statement that is not reached -/
def stuckM : MS := fun _ => none
theorem s_never : SE X pr st stuckM := PS.imp ps_never fun D σ H ⟨sd, W, out, _, em, _⟩ => nomatch em

/-! methods and operators of own objects -/
def DefM (P : Program) (w : World) (K : PySem.W.Frag) (mg : Str → Option Value) (base : Heap) (k : Nat) (c m : Str) (N ps : List Str) (body : MS) : Prop :=
  ∃ C f fd, mg c = some (.ref C) ∧ Cls K C ∧ FnOk P w K mg base CX0 k f fd ps (spM K mg N ps [] body) ∧ PySem.W.findIn K (.ref C) m = some (some (.ref f)) ∧ PySem.W.isFn K (.ref f) = true ∧ Meth K C m f ∧ Binds K fd ps []
/-- what own == needs besides: no other type stands ahead -/
structure Ahead (K : PySem.W.Frag) (mg : Str → Option Value) (c : Str) : Prop where
  h : ∀ C, mg c = some (.ref C) → ∀ t : String, t ∈ ["NoneType", "bool", "int", "str", "tuple", "list"] → PySem.W.notFirst K C (.type t) = true
/-- x == y, x an own object -/
def eqO (n : Nat) (body : MS) (c : Str) (x y : D) : Option D := (insC c x).bind fun x => if (tyD y).isSome || (insC c y).isSome then (ownM n body [x, y]).bind fun r => match r with
  | .bl b => some (.bl b)
  | _ => none else none
/-- x.m() -/
def methO (n : Nat) (body : MS) (c m : Str) (x : D) : Option D := (insC c x).bind fun x => match x with
  | .ins _ fs => if (fs.lookup m).isNone then ownM n body [x] else none
  | _ => none
theorem DFs.no {K : PySem.W.Frag} {mg : Str → Option Value} {W : Hp} {f : Str} : ∀ {gs : List (Str × V)} {fs : List (Str × D)}, DFs K mg W gs fs → fs.lookup f = none → gs.lookup f = none
  | _, _, .nil, _ => rfl
  | _, _, @DFs.cons _ _ _ _ n v gs e fs r s, h => by
    rw [List.lookup_cons] at h ⊢
    cases q : f == n with
    | true => rw [q] at h; cases h
    | false => rw [q] at h; exact DFs.no s h
end
end Fli
set_option Elab.async false
set_option linter.all false
set_option maxRecDepth 100000
set_option maxHeartbeats 4000000
namespace Fli
open PySem PySem.Spec PyProof.Rows L2
variable [HW]

/-! an own class, as the module holds it -/
structure ClsAt (K : PySem.W.Frag) (C : Addr) (fields : List Str) : Prop where
  it : InsTy K C
  na : ∀ f ∈ fields, NoAttr K C f
  ki : ∀ t : String, t ∈ ["NoneType", "bool", "int", "str", "tuple", "list"] → PySem.W.kitOne K (.type t) (.ref C) = some false
  nf : ∀ t : String, t ∈ ["NoneType", "bool", "int", "str", "tuple", "list"] → PySem.W.notFirst K C (.type t) = true
def OwnC (K : PySem.W.Frag) (mg : Str → Option Value) (c : Str) (fields : List Str) : Prop := ∃ C, mg c = some (.ref C) ∧ ClsAt K C fields
/-- its __init__ and how its arguments come -/
def MakeX (P : Program) (w : World) (K : PySem.W.Frag) (mg : Str → Option Value) (base : Heap) (k : Nat) (c : Str) (N ps : List Str) (dd : List D) (body : MS) : Prop :=
  ∃ C f fd dvs ds, mg c = some (.ref C) ∧ Mk K C f ∧ FnOk P w K mg base CX0 k f fd ps (spM K mg N ps [0] body) ∧ Binds K fd ps ds ∧ Vals dvs ds ∧ ∀ W, DRs K mg W dvs dd
def dropM (m : M D) : MS := fun s => (m s).map fun p => .nx p.2
section
variable {X : Cx} {e a b : Expr} {es : List Expr} {x c f : Str} {p pos apos p2 : Pos} {ma mb m : M D} {ms : M (List D)} {pr : List Nat} {fields : List Str}
theorem s_drop (h : DE X e m) (hs : swapsWith e none pos.line X.env = pure false := by rfl) : SE X pr (.Expr e pos) (dropM m) := PS.imp (ps_expr h hs) fun D σ H ⟨sd, W, out, st, em, q⟩ => by
  simp only [dropM, Option.map_eq_some_iff] at em
  obtain ⟨⟨d, s1⟩, e1, rfl⟩ := em
  exact ⟨sd, W, d, s1, st, e1, fun v H1 W1 st1 k1 r => q σ H1 W1 st1 k1 Pr.refl⟩
theorem e_fldX (oc : OwnC X.K X.mg c fields) (hf : f ∈ fields) (h : DE X e m) (hb : attributeBase e f X.env (eval e X.env) = eval e X.env := by rfl) : DE X (.Attribute e f pos) (bindM m fun d => optM (fldD c f d)) := by
  obtain ⟨C, hm, cl⟩ := oc
  exact e_fld h cl.it.cl (cl.na f hf) hm hb
theorem s_fldX (i : Nat) (oc : OwnC X.K X.mg c fields) (hf : f ∈ fields) (hn : PE X (.Name x p2) (tVar i)) (h : DE X e m) (hsw : swapsWith e (some (.Attribute (.Name x p2) f apos)) pos.line X.env = pure false := by rfl) :
    SE X pr (.Assign [.Attribute (.Name x p2) f apos] e pos) (setFM i c f m) := by
  obtain ⟨C, hm, cl⟩ := oc
  refine PS.imp (ps_fld hn h hsw) fun D σ H ⟨sd, W, out, st, em, q⟩ => ?_
  simp only [setFM, Option.bind_eq_some_iff] at em
  obtain ⟨⟨d, s1⟩, e1, em⟩ := em
  refine ⟨sd, W, d, s1, st, e1, fun v H1 W1 st1 k1 r => ?_⟩
  split at em
  · rename_i c' fs hs
    split at em
    · rename_i hc
      obtain ⟨rfl, hz⟩ := hc
      cases em
      have es := slotO_some hs
      obtain ⟨a, ha, w, C', dx, gs, m1, g1, r1⟩ := st1.own i _ es
      rw [hm] at m1
      cases m1
      obtain ⟨g2, g3⟩ := st1.put (ho := .ins C dx (putF f v gs)) (o' := .obj c' (putD f d fs)) es ha w ⟨w, _, _, _, hm, upd_same, r1.put r⟩
      exact ⟨_, ha, a, C, dx, gs, rfl, g1, cl.it.cl, cl.na f hf, by rw [r1.len]; exact hz, q σ _ _ g2 (k1.trans g3) Pr.refl⟩
    · cases em
  · cases em
theorem o_makeX {k n j : Nat} {N ps : List Str} {dd : List D} {body : MS} (mk : MakeX X.prog X.w X.K X.mg X.base k x N ps dd body) (hr : Room (k + 1) X.A) (hg : Gl X x) (hn : N.length = n) (hs : LA X (e :: es) ms) (hl : LenIs ms j) (hj : j + dd.length + 1 = ps.length) (hdb : (x == ("__debug__" : Str)) = false := by decide) (he : starEach (e :: es) X.env = (false, eval e X.env) :: starEach es X.env := by rfl) (hpl : (backTo pos (starEach es X.env)).any (·.1) = false := by rfl) :
    OE X (.Call (.Name x p) (e :: es) [] pos) (mkO n body x ms fun xs => xs ++ dd) := by
  obtain ⟨C, f, fd, dvs, ds, hm, Mx, F, hb, hv, hd⟩ := mk
  exact o_make Mx F hr hg hm hb hv hd hn hs hl hj hdb he hpl
theorem e_lenX {k n : Nat} {N ps : List Str} {body : MS} (dm : DefM X.prog X.w X.K X.mg X.base k c "__len__" N ps body) (hr : Room (k + 1) X.A) (hn : N.length = n) (h1 : ps.length = 1) (h : DE X e m) (hg : Gl X "len") (hl : X.mg "len" = none) (he : starEach [e] X.env = (false, eval e X.env) :: starEach [] X.env := by rfl) (hpl : (backTo pos (starEach [] X.env)).any (·.1) = false := by rfl) :
    DE X (.Call (.Name "len" p) [e] [] pos) (bindM m fun d => optM (lenC n body c d)) := by
  obtain ⟨C, f, fd, hm, cl, F, hs, hf, _, hbi⟩ := dm
  exact e_lenC F hr hbi hn h1 hm hs hf h hg hl he hpl
end

/-! str of an own object; its truth by its length -/
section
variable {X : Cx} {k n : Nat} {c : Str} {e : Expr} {p pos : Pos} {m : M D} {N ps : List Str} {body : MS}
end
end Fli
set_option Elab.async false
set_option linter.all false
set_option maxRecDepth 100000
set_option maxHeartbeats 4000000
namespace Fli
open PySem PySem.Spec PyProof.Rows L2
variable [HW]

/-! x != y of own objects of one class, where no __ne__ is written -/
def neO (n : Nat) (body : MS) (c : Str) (x y : D) : Option D := (insC c x).bind fun x => (insC c y).bind fun y => (ownM n body [x, y]).bind fun r => match r with
  | .bl b => some (.bl !b)
  | _ => none
section
variable {X : Cx} {a b : Expr} {p pos : Pos} {ma mb m : M D} {k n : Nat} {c : Str} {N ps : List Str} {body : MS}
end

/-! bool(x) of an own object with a length -/
section
variable {prog : Program} {w : World} {A : Around} {E : Value → Shared → Prop} {s : Shared}
end
section
variable {X : Cx} {e : Expr} {p pos : Pos} {m : M D} {ms : M (List D)} {k n : Nat} {c x : Str} {N ps ks : List Str} {body : MS}
/-- an own class called by keywords alone -/
def MakeKX (P : Program) (w : World) (K : PySem.W.Frag) (mg : Str → Option Value) (base : Heap) (k : Nat) (c : Str) (N ps ks : List Str) (gD : List D → List D) (body : MS) : Prop :=
  ∃ C f fd g gV, mg c = some (.ref C) ∧ Mk K C f ∧ FnOk P w K mg base CX0 k f fd ps (spM K mg N ps [0] body) ∧ KBn K fd ps 1 ks g gV ∧
    (∀ (v : V) (zs : List V) (W : Hp) (xs : List D), xs.length = ks.length → DRs K mg W zs xs → ∃ us, gV [v] zs = v :: us ∧ DRs K mg W us (gD xs))
theorem o_makeKX {kws : List Keyword} {gD : List D → List D} (mk : MakeKX X.prog X.w X.K X.mg X.base k x N ps ks gD body) (hr : Room (k + 1) X.A) (hg : Gl X x) (hn : N.length = n) (hs : LK X kws ms) (hl : LenIs ms ks.length) (hj : ∀ xs : List D, xs.length = ks.length → (gD xs).length + 1 = ps.length)
    (hall : (backToKw pos (keywordEach kws X.env)).all (·.1.isSome) = true := by rfl) (hks : (backToKw pos (keywordEach kws X.env)).filterMap (·.1) = ks := by rfl) (hdb : (x == ("__debug__" : Str)) = false := by decide)
    (hpl : ((backTo pos (starEach [] X.env)).any (·.1) || (backToKw pos (keywordEach kws X.env)).any (·.1.isNone)) = false := by rfl) :
    OE X (.Call (.Name x p) [] kws pos) (mkO n body x ms gD) := by
  obtain ⟨C, f, fd, g, gV, hm, Mx, F, hb, hgV⟩ := mk
  refine PE.imp (pe_makeK0 (E := E0) Mx F hr hg hm hb pass0 hs hall hks hdb hpl) fun σ H Q ⟨sd, W, o, sd', st, em, q⟩ => ?_
  obtain ⟨xs, s1, e1, em⟩ := bindM_some em
  obtain ⟨e2, rfl⟩ := optM_some em
  refine ⟨sd, W, xs, sd', st, e1, fun zs H1 W1 st1 k1 r1 => ⟨rfl, by rw [r1.len]; exact hl _ _ _ e1, fun y dy hy hdy ne => ?_⟩⟩
  obtain ⟨us, eg, ru⟩ := hgV (.ref y) zs W1 xs (hl _ _ _ e1) r1
  rw [eg]
  exact mk_core hn hm st1 k1 ru (by rw [ru.len]; exact hj _ (hl _ _ _ e1)) e2 q y dy hy hdy ne
end
theorem _root_.L2.Room.un66 {k : Nat} {A : Around} (hr : Room k A) : A.units + 66 < cLine := by have := hr.un; omega
def DefG (P : Program) (w : World) (K : PySem.W.Frag) (mg : Str → Option Value) (base : Heap) (k : Nat) (x : Str) (N ps : List Str) (pr : List Nat) (body : MS) : Prop :=
  ∃ f fd, FnG P w K mg base k f fd ps (spM K mg N ps pr body) ∧ mg x = some (.ref f) ∧ PySem.W.keepIn K (.ref f) = true ∧ Binds K fd ps []
theorem e_giveX {X : Cx} {k n : Nat} {N ps : List Str} {body : MS} {x : Str} {p pos : Pos} {e : Expr} {mo : M O} (d : DefG X.prog X.w X.K X.mg X.base k x N ps [0] body) (gd : X.A.guards = some []) (hr : Room k X.A) (hg : Gl X x) (hn : N.length = n) (hj : 1 = ps.length) (ha : OE X e mo) (hdb : (x == ("__debug__" : Str)) = false := by decide)
    (he : starEach [e] X.env = (false, eval e X.env) :: starEach [] X.env := by rfl) (hpl : (backTo pos (starEach [] X.env)).any (·.1) = false := by rfl) : DE X (.Call (.Name x p) [e] [] pos) (giveD n body mo) := by
  obtain ⟨f, fd, F, hm, hk, hb⟩ := d
  exact e_giveG F gd hr hg hm hk hb hn hj ha hdb he hpl
section
variable {X : Cx} {a b : Expr} {pos : Pos} {ma mb : M D} {k n : Nat} {c : Str} {N ps fields : List Str} {body : MS}
end
end Fli
set_option Elab.async false
set_option linter.all false
set_option maxRecDepth 100000
set_option maxHeartbeats 4000000
namespace Fli
open PySem PySem.Spec PyProof.Rows L2
variable [HW]

/-! what the top has left, as facts -/
section
variable {P : Program} {w : World} {K : PySem.W.Frag} {mg : Str → Option Value} {base : Heap} {h : Heap}
theorem def_okD {x qual : Str} {st : Stmt} {f : Addr} {fd : FuncData} {N ps : List Str} {k : Nat} {pr : List Nat} {body : MS} {dvs : List V} (F : FunD K x qual (defArgs st) (defBody st) (defScope st) dvs [] f fd) (Sc : FnScope N ps (defScope st))
    (hb : ∀ (cdv : Value) (A : Around) (outer : List Env) (s : Shared) (H : Hp) (E : XK), Room k (A.deeper (PyProof.Rows.envOfC qual (defScope st) s.heap.objs.size f cdv)) → SEs (cxOf CX0 P w K mg base N qual (defScope st) f cdv A outer s H E).nox pr (defBody st) body) :
    FnOk P w K mg base CX0 (k + 1) f fd ps (spM K mg N ps pr body) :=
  F.ok Sc (fun vs H Q E h => h.1) fun cdv A outer s H vs Q E hr h => ⟨_, (hb cdv A outer s H E hr).nox, h.2⟩
theorem funX_mk {x : Str} {st : Stmt} {f : Addr} {oc : Value} {od an : Option Addr} {osl : Array (Option Value)} {kV doc pm cdv ct : Value} (X : K.In h) (G : h.Ns mainGlobals mg) (a : PySem.W.nsIn K mainGlobals x = some (some (.ref f)))
    (l : K.lookup f = some ⟨oc, od, .func (PySem.W.fnOf x x (defArgs st) (defBody st) (defScope st) .none kV doc pm an cdv ct), osl⟩) (c : PySem.W.codeIn K cdv x = true) (k : PySem.W.keepIn K (.ref f) = true) : FunX K mg x st :=
  ⟨f, _, fun_mk l c k, PySem.W.mg_of X G a⟩
def BindsLike (x q : Str) (st : Stmt) (ps : List Str) : Prop := ∀ (kV doc pm : Value) (an : Option Addr) (cdv ct : Value) (us : List Value), us.length = ps.length → bindArgs (PySem.W.fnOf x q (defArgs st) (defBody st) (defScope st) .none kV doc pm an cdv ct) ⟨us, []⟩ = pure (ps.zip us)
theorem FunX.defX {x : Str} {st : Stmt} {k : Nat} {N ps : List Str} {pr : List Nat} {body : MS} (F : FunX K mg x st) (ok : ∀ {f fd}, Fun K x x st f fd → FnOk P w K mg base CX0 k f fd ps (spM K mg N ps pr body)) (b : BindsLike x x st ps) : DefX P w K mg base k x N ps pr body := by
  obtain ⟨f, fd, F, hm⟩ := F
  exact ⟨f, fd, ok F, hm, F.kp, F.binds b⟩
theorem FunX.defG {x : Str} {st : Stmt} {k : Nat} {N ps : List Str} {pr : List Nat} {body : MS} (F : FunX K mg x st) (ok : ∀ {f fd}, Fun K x x st f fd → FnG P w K mg base k f fd ps (spM K mg N ps pr body)) (b : BindsLike x x st ps) : DefG P w K mg base k x N ps pr body := by
  obtain ⟨f, fd, F, hm⟩ := F
  exact ⟨f, fd, ok F, hm, F.kp, F.binds b⟩
/-- a method of an own class -/
def MethF (K : PySem.W.Frag) (C : Addr) (m q : Str) (st : Stmt) : Prop := ∃ f fd, Fun K m q st f fd ∧ Meth K C m f
theorem methF_mk {m q : Str} {st : Stmt} {C f : Addr} {oc : Value} {od an : Option Addr} {osl : Array (Option Value)} {kV doc pm cdv ct : Value} (a : PySem.W.findIn K (.ref C) m = some (some (.ref f))) (i : PySem.W.isFn K (.ref f) = true)
    (l : K.lookup f = some ⟨oc, od, .func (PySem.W.fnOf m q (defArgs st) (defBody st) (defScope st) .none kV doc pm an cdv ct), osl⟩) (cd : PySem.W.codeIn K cdv q = true) (k : PySem.W.keepIn K (.ref f) = true) : MethF K C m q st :=
  ⟨f, _, fun_mk l cd k, ⟨a, i, k⟩⟩
theorem MethF.defM {c m q : Str} {C : Addr} {st : Stmt} {k : Nat} {N ps : List Str} {body : MS} (F : MethF K C m q st) (hm : mg c = some (.ref C)) (cl : Cls K C) (ok : ∀ {f fd}, Fun K m q st f fd → FnOk P w K mg base CX0 k f fd ps (spM K mg N ps [] body)) (b : BindsLike m q st ps) : DefM P w K mg base k c m N ps body := by
  obtain ⟨f, fd, F, M⟩ := F
  exact ⟨C, f, fd, hm, cl, ok F, M.at_, M.fn, M, F.binds b⟩
/-- __init__ with defaults -/
def InitF (K : PySem.W.Frag) (mg : Str → Option Value) (C : Addr) (q : Str) (st : Stmt) (dd : List D) : Prop := ∃ f fd dvs, Mk K C f ∧ FunD K "__init__" q (defArgs st) (defBody st) (defScope st) dvs [] f fd ∧ ∀ W, DRs K mg W dvs dd
theorem initF_mk {q : Str} {st : Stmt} {C f T T0 : Addr} {oc : Value} {od an : Option Addr} {osl sl sl0 : Array (Option Value)} {kV doc pm cdv ct oc2 : Value} {od2 : Option Addr} {n : Nat} (mk : PySem.W.makesIn K C = true) (kc : PySem.W.keepIn K (.ref C) = true) (a : PySem.W.findIn K (.ref C) "__init__" = some (some (.ref f))) (i : PySem.W.isFn K (.ref f) = true)
    (l : K.lookup f = some ⟨oc, od, .func (PySem.W.fnOf "__init__" q (defArgs st) (defBody st) (defScope st) (.ref T) kV doc pm an cdv ct), osl⟩) (cd : PySem.W.codeIn K cdv q = true) (k : PySem.W.keepIn K (.ref f) = true)
    (lt : K.lookup T = some ⟨oc2, od2, .seq #[.ref T0] n, sl⟩) (l0 : K.lookup T0 = some ⟨.type "tuple", none, .seq #[] 0, sl0⟩) : InitF K mg C q st [.tup []] :=
  ⟨f, _, [.ref T0], ⟨mk, a, i, kc⟩, ⟨⟨oc, od, _, kV, doc, pm, an, cdv, ct, osl, rfl, l, cd, .inr ⟨by simp, T, _, [.ref T0], n, rfl, lt, rfl, .cons rfl .nil⟩, .inl rfl⟩, k⟩,
    fun W => .cons (.tup (vs := []) (.inr ⟨_, #[], 0, l0, rfl, rfl, rfl, by decide, .nil⟩) .nil) .nil⟩
end
section
variable {P : Program} {w : World} {K : PySem.W.Frag} {mg : Str → Option Value} {base : Heap} {h : Heap} {c q : Str} {st : Stmt} {k : Nat} {N ps ks : List Str} {body : MS} {dd : List D}
def BindsDfl (q : Str) (st : Stmt) (ps : List Str) (n d : Nat) : Prop := ∀ (T : Addr) (kV doc pm : Value) (an : Option Addr) (cdv ct : Value) (us its : List Value), us.length = n → its.length = d →
  ∃ k, bindArgs (PySem.W.fnOf "__init__" q (defArgs st) (defBody st) (defScope st) (.ref T) kV doc pm an cdv ct) ⟨us, []⟩ = seqItems? (.ref T) >>= k ∧ k (some its.toArray) = pure (ps.zip (us ++ its.drop (n + d - ps.length)))
theorem vals_drs {W : Hp} : ∀ {vs : List V} {dd : List D} (n : Nat), DRs K mg W vs dd → DRs K mg W (vs.drop n) (dd.drop n)
  | _, _, 0, r => r
  | _, _, n + 1, .nil => .nil
  | _, _, n + 1, .cons _ r => vals_drs n r
/-- n positional arguments, the last ones of the defaults fill up -/
theorem InitF.makeX {C : Addr} (F : InitF K mg C q st dd) (hm : mg c = some (.ref C)) (n : Nat) (hd : dd ≠ []) (hn : n + (dd.length - (n + dd.length - ps.length)) = ps.length) (ok : ∀ {f fd dvs}, FunD K "__init__" q (defArgs st) (defBody st) (defScope st) dvs [] f fd → FnOk P w K mg base CX0 k f fd ps (spM K mg N ps [0] body))
    (b : BindsDfl q st ps n dd.length) : MakeX P w K mg base k c N ps (dd.drop (n + dd.length - ps.length)) body := by
  obtain ⟨f, fd, dvs, M, F, r⟩ := F
  have l : dvs.length = dd.length := (r fun _ => none).len
  obtain ⟨ds, r1, b1⟩ := FunD.binds1 (ps := ps) F n (n + dd.length - ps.length) (by rintro rfl; cases dd with | nil => exact hd rfl | cons _ _ => cases l) (by rw [l]; exact hn) fun T kV doc pm an cdv ct us its h1 h2 => b T kV doc pm an cdv ct us its h1 (h2.trans l)
  exact ⟨C, f, fd, _, ds, hm, M, ok F, b1, r1, fun W => vals_drs _ (r W)⟩
/-- all arguments by keywords -/
theorem InitF.makeKX {C : Addr} {gD : List D → List D} (F : InitF K mg C q st dd) (hm : mg c = some (.ref C)) (hd : dd ≠ []) (g : {α : Type} → List α → List α → List α) (hrel : ∀ {vs zs : List V} {us ws : List Value}, Vals vs us → Vals zs ws → Vals (g vs zs) (g us ws))
    (ok : ∀ {f fd dvs}, FunD K "__init__" q (defArgs st) (defBody st) (defScope st) dvs [] f fd → FnOk P w K mg base CX0 k f fd ps (spM K mg N ps [0] body))
    (b : ∀ (T : Addr) (kV doc pm : Value) (an : Option Addr) (cdv ct : Value) (us its ws : List Value), us.length = 1 → its.length = dd.length → ws.length = ks.length → ∃ k, bindArgs (PySem.W.fnOf "__init__" q (defArgs st) (defBody st) (defScope st) (.ref T) kV doc pm an cdv ct) ⟨us, ks.zip ws⟩ = seqItems? (.ref T) >>= k ∧ k (some its.toArray) = pure (ps.zip (g us ws)))
    (hg : ∀ (v : V) (zs : List V) (W : Hp) (xs : List D), xs.length = ks.length → DRs K mg W zs xs → ∃ us, g [v] zs = v :: us ∧ DRs K mg W us (gD xs)) : MakeKX P w K mg base k c N ps ks gD body := by
  obtain ⟨f, fd, dvs, M, F, r⟩ := F
  have l : dvs.length = dd.length := (r fun _ => none).len
  obtain ⟨its, kb⟩ := FunD.kbindsD (ps := ps) F 1 ks (fun us _ ws => g us ws) (by rintro rfl; cases dd with | nil => exact hd rfl | cons _ _ => cases l) (fun a _ b => hrel a b) fun T kV doc pm an cdv ct us its ws h1 h2 h3 => b T kV doc pm an cdv ct us its ws h1 (h2.trans l) h3
  exact ⟨C, f, fd, _, _, hm, M, ok F, kb, hg⟩
end
section
variable {P : Program} {w : World} {K : PySem.W.Frag} {mg : Str → Option Value} {base : Heap} {h : Heap} {c : Str}
theorem kit_own {C : Addr} {T : String} {cd : ClassData} (h1 : PySem.W.clsIn K C = some cd) (h2 : PySem.W.typeIn K (.ref C) = some (.type "type")) (h3 : PySem.W.subIn K (.type T) (.ref C) = some false) : PySem.W.kitOne K (.type T) (.ref C) = some false := by
  unfold PySem.W.kitOne PySem.W.kitCls
  rw [if_neg (by simp)]
  simp only [h1, h2, h3]
  simp
theorem ownC_mk {C : Addr} {fields : List Str} (hm : mg c = some (.ref C)) (cl : Cls K C) (a : PySem.W.findIn K (.ref C) "__class__" = some (some (.builtin "object.__class__"))) (b : PySem.W.specialIn K (.builtin "object.__class__") "__get__" = some (some (.builtin "getset_descriptor.__get__"))) (cc : PySem.W.takesIn K (.builtin "object.__class__") = some true)
    (d : PySem.W.mroIn K C (.type "object") = some true) (na : ∀ f ∈ fields, PySem.W.findIn K (.ref C) f = some none) {cd : ClassData} (q1 : PySem.W.clsIn K C = some cd) (q2 : PySem.W.typeIn K (.ref C) = some (.type "type"))
    (k1 : PySem.W.subIn K (.type "NoneType") (.ref C) = some false) (k2 : PySem.W.subIn K (.type "bool") (.ref C) = some false) (k3 : PySem.W.subIn K (.type "int") (.ref C) = some false) (k4 : PySem.W.subIn K (.type "str") (.ref C) = some false) (k5 : PySem.W.subIn K (.type "tuple") (.ref C) = some false) (k6 : PySem.W.subIn K (.type "list") (.ref C) = some false)
    (n1 : PySem.W.notFirst K C (.type "NoneType") = true) (n2 : PySem.W.notFirst K C (.type "bool") = true) (n3 : PySem.W.notFirst K C (.type "int") = true) (n4 : PySem.W.notFirst K C (.type "str") = true) (n5 : PySem.W.notFirst K C (.type "tuple") = true) (n6 : PySem.W.notFirst K C (.type "list") = true) : OwnC K mg c fields := by
  refine ⟨C, hm, ⟨⟨cl, a, b, cc, d⟩, na, fun t ht => ?_, fun t ht => ?_⟩⟩
  all_goals
    simp only [List.mem_cons, List.not_mem_nil, or_false] at ht
    rcases ht with rfl | rfl | rfl | rfl | rfl | rfl
    all_goals first | assumption | exact kit_own q1 q2 (by assumption)
theorem txt_mk {h : Heap} (X : K.In h) (G : h.Ns mainGlobals mg) (z1 : PySem.W.nsIn K mainGlobals "len" = some none) (z2 : PySem.W.nsIn K mainGlobals "int" = some none) (z3 : PySem.W.nsIn K mainGlobals "abs" = some none) (z4 : PySem.W.nsIn K mainGlobals "range" = some none) (z5 : PySem.W.nsIn K mainGlobals "min" = some none) (z6 : PySem.W.nsIn K mainGlobals "max" = some none) (z7 : PySem.W.nsIn K mainGlobals "tuple" = some none)
    (z8 : PySem.W.nsIn K mainGlobals "list" = some none) (z9 : PySem.W.nsIn K mainGlobals "all" = some none) (z10 : PySem.W.nsIn K mainGlobals "repr" = some none) (z11 : PySem.W.nsIn K mainGlobals "isinstance" = some none) (z12 : PySem.W.nsIn K mainGlobals "enumerate" = some none) (z13 : PySem.W.nsIn K mainGlobals "str" = some none) (z14 : PySem.W.nsIn K mainGlobals "bool" = some none) : Txt K mg :=
  have n {x : Str} (e : PySem.W.nsIn K mainGlobals x = some none) : mg x = none := PySem.W.mg_none_of X G e
  ⟨n z1, n z2, n z3, n z4, n z5, n z6, n z7, n z8, n z9, n z10, n z11, n z12, n z13, n z14⟩
end
end Fli
set_option Elab.async false
set_option linter.all false
set_option maxRecDepth 100000
set_option maxHeartbeats 4000000
namespace Fli
open PySem PySem.Spec PyProof.Rows L2
variable [HW]

/-! texts cut into lists, beginnings of texts -/
section
variable {X : Cx} {o e : Expr} {es : List Expr} {apos pos p p2 : Pos} {ma mb m : M D} {ms : M (List D)} {x : Str} {pr : List Nat}
/-! stars: in a display, in a target -/
end
end Fli
namespace Fli
open PySem PySem.Spec PyProof.Rows L2
variable [HW]
/-! a try whose body raises nothing -/
/-! classes as values, classmethods -/
section
variable {X : Cx} {k n j : Nat} {N ps : List Str} {body : MS} {x c nm : Str} {p pos p2 apos : Pos} {e : Expr} {es : List Expr} {ms : M (List D)} {dd : List D}
end
end Fli
set_option Elab.async false
set_option linter.all false
set_option maxRecDepth 100000
set_option maxHeartbeats 4000000
namespace Fli
open PySem PySem.Spec PyProof.Rows L2
variable [HW]

/-! what is walked: items, one behind another, whatever the iterator; b: some of them may be new pairs -/
structure Iot (b : Bool) (K : PySem.W.Frag) (mg : Str → Option Value) (W : Hp) (J : It) (items : List D) : Prop where
  go : ∀ i H, Le W H → i < items.length → J.go i H
  stop : ∀ i H, Le W H → items.length ≤ i → J.stop i H
  yld : ∀ i H x H' W', Le W W' → Le W' H → J.yld i H x H' → ∀ d, items[i]? = some d → (H' = H ∧ DR K mg W' x d) ∨ (b = true ∧ ∃ T vs es, x = .ref T ∧ H T = none ∧ H' = upd H T (.tup vs) ∧ d = .tup es ∧ DRs K mg W' vs es)
def tI (b : Bool) (K : PySem.W.Frag) (mg : Str → Option Value) (m : M (List D)) : TI := fun σ H R => ∃ sd W ds sd', St K mg sd σ H W ∧ m sd = some (ds, sd') ∧ ∀ J H' W', St K mg sd' σ H' W' → Kp sd σ H W sd' σ H' W' → Iot b K mg W' J ds → R J H'
section
variable {b : Bool} {K : PySem.W.Frag} {mg : Str → Option Value} {W : Hp}
end
section
variable {X : Cx} {b : Bool} {tg e a : Expr} {m : M D} {ms : M (List D)} {p p3 tpos : Pos} {elts : List Expr} {kk : Nat}
end
/-! targets that take new pairs, too -/
section
variable {K : PySem.W.Frag} {mg : Str → Option Value} {pr : List Nat} {g : TG} {gs : TGs} {f : D → S → Option S} {fs : List D → S → Option S}
end
/-! a new object that is being filled -/
def Mono (R : Hp → HO → Prop) : Prop := (∀ W W' u, Le W W' → R W u → R W' u) ∧ ∀ W u, R W u → mt u
structure Fil (K : PySem.W.Frag) (mg : Str → Option Value) (R : Hp → HO → Prop) (p : Addr) (s0 : S) (σ0 : L2.St) (H0 W0 : Hp) (s : S) (σ : L2.St) (H W : Hp) : Prop where
  st : St K mg s σ H W
  kp : Kp s0 σ0 H0 W0 s σ H W
  w : W p = none
  no : ¬ Own s σ p
  ob : ∃ u, H p = some u ∧ R W u
section
variable {K : PySem.W.Frag} {mg : Str → Option Value} {R : Hp → HO → Prop} {p : Addr} {s0 s s' : S} {σ0 σ σ' : L2.St} {H0 W0 H W H' W' : Hp}
theorem Fil.step (mono : Mono R) (f : Fil K mg R p s0 σ0 H0 W0 s σ H W) (st : St K mg s' σ' H' W') (k : Kp s σ H W s' σ' H' W') : Fil K mg R p s0 σ0 H0 W0 s' σ' H' W' := by
  obtain ⟨u, hu, r⟩ := f.ob
  refine ⟨st, f.kp.trans k, k.new p f.w (by rw [hu]; simp) f.no, fun z => (k.own p z).elim f.no fun z => (by rw [hu] at z; cases z), u, k.keep p u hu f.no (mono.2 _ _ r).1, mono.1 _ _ _ k.le r⟩
theorem Fil.put {R' : Hp → HO → Prop} {u : HO} (mono : Mono R) (f : Fil K mg R p s0 σ0 H0 W0 s σ H W) (h0 : H0 p = none) (r : R' W u) : Fil K mg R' p s0 σ0 H0 W0 s σ (upd H p u) W := by
  have np : ∀ u, H p = some u → mt u := fun u z => by
    obtain ⟨u0, hu, r0⟩ := f.ob
    rw [hu] at z; cases z
    exact mono.2 _ _ r0
  refine ⟨f.st.mut f.w f.no np, ⟨f.kp.le, fun a o h q => ?_, f.kp.new, f.kp.own, fun a h => ?_⟩, f.w, f.no, u, upd_same, r⟩
  · rw [upd_ne (ne_of_none h h0)]; exact f.kp.keep a o h q
  · by_cases z : a = p
    · rw [z, upd_same]; simp
    · rw [upd_ne z]; exact f.kp.there a h
end
/-! two fors in one comprehension -/
section
variable {K : PySem.W.Frag} {mg : Str → Option Value} {b b1 : Bool} {mi inn : M (List D)} {vs vs1 : List Nat} {g g1 : TG} {asg asg1 : D → S → Option S} {c c1 : M Bool} {el : M D}
end
end Fli
set_option Elab.async false
set_option linter.all false
set_option maxRecDepth 100000
set_option maxHeartbeats 4000000
namespace Fli
open PySem PySem.Spec PyProof.Rows L2
variable [HW]

section
variable {X : Cx} {b b1 : Bool} {elt tg it tg1 it1 : Expr} {ifs ifs1 : List Expr} {scope : Scope} {own : List (Str × Nat)} {vs vs1 : List Nat} {pos spos py : Pos} {g g1 : TG} {asg asg1 : D → S → Option S} {mi inn : M (List D)} {c c1 : M Bool} {el : M D} {y : Str} {i : Nat} {pr : List Nat}
end
/-! dicts with ints and texts for keys -/
section
variable {κ β : Type} [DecidableEq κ]
def valP (kvs : List (κ × β)) (k : κ) : Option β := (kvs.find? fun q => decide (q.1 = k)).map (·.2)
def putP (kvs : List (κ × β)) (k : κ) (y : β) : List (κ × β) := if (kvs.any fun q => decide (q.1 = k)) = true then kvs.map fun q => if q.1 = k then (q.1, y) else q else kvs ++ [(k, y)]
end
section
variable {K : PySem.W.Frag} {mg : Str → Option Value} {W : Hp}
theorem DKs.len : ∀ {gs : List (Key × V)} {kvs : List (Key × D)}, DKs K mg W gs kvs → gs.length = kvs.length
  | _, _, .nil => rfl
  | _, _, .cons _ r => by simp [DKs.len r]
theorem DKs.any {k : Key} : ∀ {gs : List (Key × V)} {kvs : List (Key × D)}, DKs K mg W gs kvs → (gs.any fun q => decide (q.1 = k)) = kvs.any fun q => decide (q.1 = k)
  | _, _, .nil => rfl
  | _, _, .cons _ r => by simp [DKs.any r]
theorem DKs.val {k : Key} : ∀ {gs : List (Key × V)} {kvs : List (Key × D)}, DKs K mg W gs kvs → (∃ v d, valV gs k = some v ∧ valP kvs k = some d ∧ DR K mg W v d) ∨ (valV gs k = none ∧ valP kvs k = none)
  | _, _, .nil => .inr ⟨rfl, rfl⟩
  | _, _, @DKs.cons _ _ _ _ n v gs d fs h r => by
    by_cases e : n = k
    · exact .inl ⟨v, d, valV_pos (p := (n, v)) e, by unfold valP; simp [e], h⟩
    · have e1 : valV ((n, v) :: gs) k = valV gs k := valV_neg (p := (n, v)) e
      have e2 : valP ((n, d) :: fs) k = valP fs k := by unfold valP; simp [e]
      rw [e1, e2]; exact DKs.val r
theorem DKs.mapP {k : Key} {v : V} {d : D} (h : DR K mg W v d) : ∀ {gs : List (Key × V)} {kvs : List (Key × D)}, DKs K mg W gs kvs → DKs K mg W (gs.map fun q => if q.1 = k then (q.1, v) else q) (kvs.map fun q => if q.1 = k then (q.1, d) else q)
  | _, _, .nil => .nil
  | _, _, @DKs.cons _ _ _ _ n w gs e fs g r => by
    by_cases z : n = k
    · simp only [List.map_cons, if_pos z]; exact .cons h (DKs.mapP h r)
    · simp only [List.map_cons, if_neg z]; exact .cons g (DKs.mapP h r)
theorem DKs.app : ∀ {gs hs : List (Key × V)} {kvs ls : List (Key × D)}, DKs K mg W gs kvs → DKs K mg W hs ls → DKs K mg W (gs ++ hs) (kvs ++ ls)
  | _, _, _, _, .nil, s => s
  | _, _, _, _, .cons h r, s => .cons h (DKs.app r s)
theorem DKs.put {k : Key} {v : V} {d : D} {gs : List (Key × V)} {kvs : List (Key × D)} (r : DKs K mg W gs kvs) (h : DR K mg W v d) : DKs K mg W (putK gs k v) (putP kvs k d) := by
  unfold putK putP
  rw [r.any]
  split
  · exact DKs.mapP h r
  · exact r.app (.cons h .nil)
end
/-! {k: v for ..} -/
section
variable {K : PySem.W.Frag} {mg : Str → Option Value} {b : Bool} {mi : M (List D)} {vs : List Nat} {g : TG} {asg : D → S → Option S} {c : M Bool} {kx vx : M D}
end
section
variable {X : Cx} {b : Bool} {kx vx tg it a e : Expr} {ifs : List Expr} {scope : Scope} {own : List (Str × Nat)} {vs : List Nat} {pos p : Pos} {g : TG} {asg : D → S → Option S} {mi : M (List D)} {c : M Bool} {mk mv ma mb : M D}
end
end Fli
set_option Elab.async false
set_option linter.all false
set_option maxRecDepth 100000
set_option maxHeartbeats 4000000
namespace Fli
open PySem PySem.Spec PyProof.Rows L2
variable [HW]

/-! plain defs called by keywords alone -/
section
variable {X : Cx} {k n : Nat} {N ps ks : List Str} {idx : List Nat} {body : MS} {x : Str} {p po : Pos} {kws : List Keyword} {ms : M (List D)}
end
/-! a classmethod, by what the top has left -/
/-! targets of any shape keep to their slots -/
def TGm (vs : List Nat) (g : TG) : Prop := ∀ (x : V) (σ : L2.St) (H : Hp) (Q Q' : L2.St → Hp → Prop), (∀ σ2 H2, L2.wipe σ2 vs = L2.wipe σ vs → Q σ2 H2 → Q' σ2 H2) → g x σ H Q → g x σ H Q'
theorem TGm.w {vs : List Nat} {g : TG} (h : TGm vs g) : TGw vs g := fun x σ H Q q => h x σ H _ _ (fun _ _ e q => ⟨e, q e⟩) q
end Fli
namespace Fli
open PySem PySem.Spec PyProof.Rows L2
variable [HW]
/-! a classmethod called by keywords alone -/
section
variable {X : Cx} {k n : Nat} {N ps ks : List Str} {idx : List Nat} {body : MS} {c nm : Str} {p2 apos po : Pos} {kws : List Keyword} {ms : M (List D)} {pl : Sem Bool}
end
end Fli
set_option Elab.async false
set_option linter.all false
set_option maxRecDepth 100000
set_option maxHeartbeats 4000000
namespace Fli
open PySem PySem.Spec PyProof.Rows L2
variable [HW]

/-! keys that are tuples -/
abbrev Ent := List Key × Addr × V
def valX (gs : List Ent) (k : List Key) : Option V := (gs.find? fun q => decide (q.1 = k)).map (·.2.2)
def putX (gs : List Ent) (k : List Key) (b : Addr) (v : V) : List Ent := if (gs.any fun q => decide (q.1 = k)) = true then gs.map fun q => if q.1 = k then (q.1, q.2.1, v) else q else gs ++ [(k, b, v)]
section
variable {K : PySem.W.Frag} {mg : Str → Option Value} {W : Hp}
theorem DTs.len : ∀ {gs : List Ent} {kvs : List (List Key × D)}, DTs K mg W gs kvs → gs.length = kvs.length
  | _, _, .nil => rfl
  | _, _, .cons _ _ r => by simp [DTs.len r]
theorem DTs.keys : ∀ {gs : List Ent} {kvs : List (List Key × D)}, DTs K mg W gs kvs → ∀ p ∈ gs, SqF K W p.2.1 (p.1.map kV)
  | _, _, .nil, p, h => nomatch h
  | _, _, .cons s _ r, p, h => by
    rcases List.mem_cons.mp h with e | h
    · subst e; exact s
    · exact DTs.keys r p h
theorem DTs.any {k : List Key} : ∀ {gs : List Ent} {kvs : List (List Key × D)}, DTs K mg W gs kvs → (gs.any fun q => decide (q.1 = k)) = kvs.any fun q => decide (q.1 = k)
  | _, _, .nil => rfl
  | _, _, .cons _ _ r => by simp [DTs.any r]
theorem DTs.val {k : List Key} : ∀ {gs : List Ent} {kvs : List (List Key × D)}, DTs K mg W gs kvs → (∃ v d, valX gs k = some v ∧ valP kvs k = some d ∧ DR K mg W v d) ∨ (valX gs k = none ∧ valP kvs k = none)
  | _, _, .nil => .inr ⟨rfl, rfl⟩
  | _, _, @DTs.cons _ _ _ _ n b v gs d fs s h r => by
    by_cases e : n = k
    · exact .inl ⟨v, d, by unfold valX; simp [e], by unfold valP; simp [e], h⟩
    · have e1 : valX ((n, b, v) :: gs) k = valX gs k := by unfold valX; simp [e]
      have e2 : valP ((n, d) :: fs) k = valP fs k := by unfold valP; simp [e]
      rw [e1, e2]; exact DTs.val r
theorem DTs.mapP {k : List Key} {v : V} {d : D} (h : DR K mg W v d) : ∀ {gs : List Ent} {kvs : List (List Key × D)}, DTs K mg W gs kvs → DTs K mg W (gs.map fun q => if q.1 = k then (q.1, q.2.1, v) else q) (kvs.map fun q => if q.1 = k then (q.1, d) else q)
  | _, _, .nil => .nil
  | _, _, @DTs.cons _ _ _ _ n b w gs e fs s g r => by
    by_cases z : n = k
    · simp only [List.map_cons, if_pos z]; exact .cons s h (DTs.mapP h r)
    · simp only [List.map_cons, if_neg z]; exact .cons s g (DTs.mapP h r)
theorem DTs.app : ∀ {gs hs : List Ent} {kvs ls : List (List Key × D)}, DTs K mg W gs kvs → DTs K mg W hs ls → DTs K mg W (gs ++ hs) (kvs ++ ls)
  | _, _, _, _, .nil, s => s
  | _, _, _, _, .cons s h r, t => .cons s h (DTs.app r t)
theorem DTs.put {k : List Key} {b : Addr} {v : V} {d : D} {gs : List Ent} {kvs : List (List Key × D)} (r : DTs K mg W gs kvs) (s : SqF K W b (k.map kV)) (h : DR K mg W v d) : DTs K mg W (putX gs k b v) (putP kvs k d) := by
  unfold putX putP
  rw [r.any]
  split
  · exact DTs.mapP h r
  · exact r.app (.cons s h .nil)
end
/-! entries, as they stand in memory -/
abbrev XR : List Ent → List (List Key × Addr × Value) → Prop := Paired fun (p : List Key × Addr × V) (q : List Key × Addr × Value) => p.1 = q.1 ∧ p.2.1 = q.2.1 ∧ RelV p.2.2 q.2.2
theorem XR.val {gs : List Ent} {zs : List (List Key × Addr × Value)} (r : XR gs zs) (k : List Key) : RelO (valX gs k) ((atKey zs k).map (·.2)) := by
  induction r with
  | nil => exact True.intro
  | @cons p q ps qs h t ih =>
    obtain ⟨p1, p2, p3⟩ := p
    obtain ⟨q1, q2, q3⟩ := q
    obtain ⟨h1, h2, h3⟩ := h
    simp only at h1 h2 h3
    subst h1 h2
    by_cases e : p1 = k
    · have a : valX ((p1, p2, p3) :: ps) k = some p3 := by unfold valX; simp [e]
      have b : atKey ((p1, p2, q3) :: qs) k = some (p2, q3) := by unfold atKey; simp [e]
      rw [a, b]; exact h3
    · have a : valX ((p1, p2, p3) :: ps) k = valX ps k := by unfold valX; simp [e]
      have b : atKey ((p1, p2, q3) :: qs) k = atKey qs k := by unfold atKey; simp [e]
      rw [a, b]; exact ih
theorem valX_any : ∀ {gs : List Ent} {k : List Key}, (gs.any fun q => decide (q.1 = k)) = (valX gs k).isSome
  | [], _ => rfl
  | p :: ps, k => by
    by_cases e : p.1 = k
    · unfold valX; simp [e]
    · have ih := valX_any (gs := ps) (k := k)
      unfold valX at ih ⊢
      simp only [List.any_cons, List.find?_cons, e, decide_false, Bool.false_or]
      exact ih
theorem XR.repl {gs : List Ent} {zs : List (List Key × Addr × Value)} (r : XR gs zs) (k : List Key) {y : V} {u : Value} (ry : RelV y u) : XR (gs.map fun q => if q.1 = k then (q.1, q.2.1, y) else q) (zs.map (putAt k u)) := by
  induction r with
  | nil => exact .nil
  | @cons p q ps qs h t ih =>
    refine .cons ?_ ih
    unfold putAt
    dsimp only
    by_cases e : p.1 = k
    · rw [if_pos e, if_pos (h.1.symm.trans e)]; exact ⟨h.1, h.2.1, ry⟩
    · rw [if_neg e, if_neg fun z => e (h.1.trans z)]; exact h
theorem XR.put {gs : List Ent} {zs : List (List Key × Addr × Value)} (r : XR gs zs) (k : List Key) {b : Addr} {y : V} {u : Value} (ry : RelV y u) : XR (putX gs k b y) (storedH zs k b u) := by
  have e : (gs.any fun q => decide (q.1 = k)) = (atKey zs k).isSome := by
    rw [valX_any, (r.val k).isSome_eq, Option.isSome_map]
  unfold putX storedH
  rw [e]
  by_cases q : (atKey zs k).isSome = true
  · rw [if_pos q, if_pos q]; exact r.repl k ry
  · rw [if_neg q, if_neg q]; exact Paired.snoc r ⟨rfl, rfl, ry⟩
/-- keys that stand where they should -/
def KeysOk (K : PySem.W.Frag) (H : Hp) (gs : List Ent) : Prop := ∀ p ∈ gs, SqT K H p.2.1 (p.1.map kV)
section
variable {X : Cx} {pins : List (Addr × Obj)} {σ : L2.St} {H : Hp} {s : Shared} {a b : Addr} {gs : List Ent} {k : List Key} {v : V} {u : Value}
end
def XPut (K : PySem.W.Frag) (H : Hp) (a : Addr) (y v : V) (H' : Hp) : Prop := ∃ gs k b, H a = some (DX a gs) ∧ KeysOk K H gs ∧ y = .ref b ∧ SqT K H b (k.map kV) ∧ gs.length < sizeLine ∧ H' = upd H a (DX a (putX gs k b v))
section
variable {X : Cx} {pins : List (Addr × Obj)} {σ : L2.St} {H : Hp} {s : Shared} {a : Addr} {y v : V} {u r : Value} {o : Option V} {A : Around} {E : Value → Shared → Prop}
theorem XPut.keys {H' : Hp} (g : XPut X.K H a y v H') : (∃ gs, H a = some (DX a gs)) := let ⟨gs, _, _, e, _⟩ := g; ⟨gs, e⟩
end
/-! rules of expressions -/
section
variable {X : Cx} {o i e value : Expr} {pos pos' tpos apos cpos : Pos} {td ty tv : TE}
end
end Fli
set_option Elab.async false
set_option linter.all false
set_option maxRecDepth 100000
set_option maxHeartbeats 4000000
namespace Fli
open PySem PySem.Spec PyProof.Rows L2
variable [HW]
section
variable {K : PySem.W.Frag} {mg : Str → Option Value} {sd s' : S} {σ : L2.St} {H H' W W' : Hp}
end
/-! reading -/
section
variable {K : PySem.W.Frag} {mg : Str → Option Value}
end
section
variable {X : Cx} {a e : Expr} {pos p2 apos cpos : Pos} {x : Str} {ma mb m : M D} {pr : List Nat}
end
/-! while -/
end Fli
set_option Elab.async false
set_option linter.all false
set_option maxRecDepth 100000
set_option maxHeartbeats 4000000
namespace Fli
open PySem PySem.Spec PyProof.Rows L2
variable [HW]
section
variable {X : Cx}
end
/-! its mirror -/
section
variable {K : PySem.W.Frag} {mg : Str → Option Value} {b : Bool} {mi : M (List D)} {vs : List Nat} {g : TG} {asg : D → S → Option S} {c : M Bool} {kx vx : M D}
end
section
variable {X : Cx} {b : Bool} {kx vx tg it : Expr} {ifs : List Expr} {scope : Scope} {own : List (Str × Nat)} {vs : List Nat} {pos : Pos} {g : TG} {asg : D → S → Option S} {mi : M (List D)} {c : M Bool} {mk mv : M D}
end
end Fli
set_option Elab.async false
set_option linter.all false
set_option maxRecDepth 100000
set_option maxHeartbeats 4000000
namespace Fli
open PySem PySem.Spec PyProof.Rows L2
variable [HW]
/-! a dict of lists, none of them seen by anyone else, made and filled in one def -/
abbrev KL := List (List Key × List D)
inductive HL (K : PySem.W.Frag) (mg : Str → Option Value) (s : S) (σ : L2.St) (H W H0 : Hp) : List Ent → List Addr → KL → Prop
  | nil : HL K mg s σ H W H0 [] [] []
  | cons {k : List Key} {b p : Addr} {vs : List V} {ds : List D} {gs : List Ent} {ps : List Addr} {kvs : KL} : SqF K W b (k.map kV) → W p = none → ¬ Own s σ p → H0 p = none → H p = some (.lst vs) → DRs K mg W vs ds → HL K mg s σ H W H0 gs ps kvs → HL K mg s σ H W H0 ((k, b, .ref p) :: gs) (p :: ps) ((k, ds) :: kvs)
structure HD (K : PySem.W.Frag) (mg : Str → Option Value) (a : Addr) (s0 : S) (σ0 : L2.St) (H0 W0 : Hp) (s : S) (σ : L2.St) (H W : Hp) (kvs : KL) : Prop where
  st : St K mg s σ H W
  kp : Kp s0 σ0 H0 W0 s σ H W
  w : W a = none
  no : ¬ Own s σ a
  nk : (kvs.map (·.1)).Nodup
  ob : ∃ gs ps, H a = some (DX a gs) ∧ ps.Nodup ∧ HL K mg s σ H W H0 gs ps kvs
section
variable {K : PySem.W.Frag} {mg : Str → Option Value} {a : Addr} {s0 s s' : S} {σ0 σ σ' : L2.St} {H0 W0 H W H' W' : Hp} {kvs : KL} {gs : List Ent} {ps : List Addr}
theorem HL.step (st : St K mg s' σ' H' W') (k : Kp s σ H W s' σ' H' W') (h : HL K mg s σ H W H0 gs ps kvs) : HL K mg s' σ' H' W' H0 gs ps kvs := by
  induction h with
  | nil => exact .nil
  | cons h1 h2 h3 h4 h5 h6 _ ih =>
    refine .cons (sf_le k.le h1) (k.new _ h2 (by rw [h5]; simp) h3) (fun z => (k.own _ z).elim h3 fun z => by rw [h5] at z; cases z) h4 (k.keep _ _ h5 h3 rfl) (h6.le k.le) ih
theorem HL.at (h : HL K mg s σ H W H0 gs ps kvs) : ∀ p ∈ ps, ∃ vs, H p = some (.lst vs) := by
  induction h with
  | nil => intro p hp; cases hp
  | cons h1 h2 h3 h4 h5 h6 _ ih =>
    intro p hp
    rcases List.mem_cons.mp hp with e | hp
    · subst e; exact ⟨_, h5⟩
    · exact ih p hp
theorem HL.keys (h : HL K mg s σ H W H0 gs ps kvs) : ∀ p ∈ gs, SqF K W p.2.1 (p.1.map kV) := by
  induction h with
  | nil => intro p hp; cases hp
  | cons h1 h2 h3 h4 h5 h6 _ ih =>
    intro p hp
    rcases List.mem_cons.mp hp with e | hp
    · subst e; exact h1
    · exact ih p hp
/-- another object changes -/
theorem HL.other {x : Addr} {o : HO} (hx : x ∉ ps) (h : HL K mg s σ H W H0 gs ps kvs) : HL K mg s σ (upd H x o) W H0 gs ps kvs := by
  induction h with
  | nil => exact .nil
  | @cons k b p vs ds gs ps kvs h1 h2 h3 h4 h5 h6 _ ih =>
    have n1 : p ≠ x := fun z => hx (by simp [z])
    exact .cons h1 h2 h3 h4 (by rw [upd_ne n1]; exact h5) h6 (ih fun z => hx (by simp [z]))
theorem HD.step (f : HD K mg a s0 σ0 H0 W0 s σ H W kvs) (st : St K mg s' σ' H' W') (k : Kp s σ H W s' σ' H' W') : HD K mg a s0 σ0 H0 W0 s' σ' H' W' kvs := by
  obtain ⟨gs, ps, h1, h2, h3⟩ := f.ob
  exact ⟨st, f.kp.trans k, k.new a f.w (by rw [h1]; simp) f.no, fun z => (k.own a z).elim f.no fun z => (by rw [h1] at z; cases z), f.nk, gs, ps, k.keep a _ h1 f.no rfl, h2, h3.step st k⟩
end
/-! {k: [] for ..} -/
section
variable {K : PySem.W.Frag} {mg : Str → Option Value} {b : Bool} {mi : M (List D)} {vs : List Nat} {g : TG} {asg : D → S → Option S} {c : M Bool} {kx : M D}
end
section
variable {X : Cx} {b : Bool} {kx tg it : Expr} {ifs : List Expr} {scope : Scope} {own : List (Str × Nat)} {vs : List Nat} {pos py : Pos} {g : TG} {asg : D → S → Option S} {mi : M (List D)} {c : M Bool} {mk : M D}
end
/-! what fills it -/
abbrev MH := S × KL → Option (S × KL)
def setL (kvs : KL) (k : List Key) (ds : List D) : KL := kvs.map fun q => if q.1 = k then (q.1, ds) else q
section
variable {X : Cx} {i : Nat} {st : Stmt} {sts : List Stmt} {m ms : MH}
theorem setL_none {kvs : KL} {k : List Key} {ds : List D} (h : k ∉ kvs.map (·.1)) : setL kvs k ds = kvs := by
  unfold setL
  conv => rhs; rw [← List.map_id kvs]
  refine List.map_congr_left fun q hq => ?_
  rw [if_neg fun e => h (List.mem_map.mpr ⟨q, hq, e⟩)]; rfl
/-- one of its lists changes -/
theorem HL.set {K : PySem.W.Frag} {mg : Str → Option Value} {s : S} {σ : L2.St} {H W H0 : Hp} {gs : List Ent} {ps : List Addr} {kvs : KL} {k : List Key} {p : Addr} {vs : List V} {ds : List D} (h : HL K mg s σ H W H0 gs ps kvs) (nd : ps.Nodup) (nk : (kvs.map (·.1)).Nodup) (e : valX gs k = some (.ref p)) (r : DRs K mg W vs ds) : HL K mg s σ (upd H p (.lst vs)) W H0 gs ps (setL kvs k ds) := by
  induction h with
  | nil => cases e
  | @cons k' b p' vs' ds' gs ps kvs h1 h2 h3 h4 h5 h6 hh ih =>
    rw [List.nodup_cons] at nd
    rw [List.map_cons, List.nodup_cons] at nk
    by_cases z : k' = k
    · have e1 : p' = p := by simpa [valX, z] using e
      subst e1 z
      have : setL ((k', ds') :: kvs) k' ds = (k', ds) :: kvs := by
        show (if k' = k' then (k', ds) else (k', ds')) :: setL kvs k' ds = _
        rw [if_pos rfl, setL_none nk.1]
      rw [this]
      exact .cons h1 h2 h3 h4 upd_same r (hh.other nd.1)
    · have e2 : valX gs k = some (.ref p) := by simpa [valX, z] using e
      have hp : p ∈ ps := by
        clear ih nd nk h1 h2 h3 h4 h5 h6 e
        induction hh with
        | nil => cases e2
        | @cons k'' b'' p'' _ _ gs ps kvs _ _ _ _ _ _ _ ih2 =>
          by_cases y : k'' = k
          · have : p'' = p := by simpa [valX, y] using e2
            simp [this]
          · exact List.mem_cons_of_mem _ (ih2 (by simpa [valX, y] using e2))
      have ne : p' ≠ p := fun y => nd.1 (y ▸ hp)
      have : setL ((k', ds') :: kvs) k ds = (k', ds') :: setL kvs k ds := by
        show (if k' = k then (k', ds) else (k', ds')) :: setL kvs k ds = _
        rw [if_neg z]
      rw [this]
      exact .cons h1 h2 h3 h4 (by rw [upd_ne ne]; exact h5) h6 (ih nd.2 nk.2 e2)
end
/-! it is shown, and handed back -/
section
variable {K : PySem.W.Frag} {mg : Str → Option Value} {a : Addr} {s0 s : S} {σ0 σ : L2.St} {H0 W0 H W : Hp} {kvs : KL} {gs : List Ent} {ps : List Addr}
end
section
variable {X : Cx} {i : Nat} {y : Str} {py pos spos : Pos} {kx vx tg it0 : Expr} {ifs : List Expr} {scope : Scope} {own : List (Str × Nat)} {g : TG}
end
end Fli
set_option Elab.async false
set_option linter.all false
set_option maxRecDepth 100000
set_option maxHeartbeats 4000000
namespace Fli
open PySem PySem.Spec PyProof.Rows L2
variable [HW]
/-! x, y = objects of their own -/
section
variable {X : Cx} {pr : List Nat}
theorem OR.step {K : PySem.W.Frag} {mg : Str → Option Value} {s s' : S} {σ σ' : L2.St} {H H' W W' : Hp} {p : Addr} {o : O} (r : OR K mg H W p o) (n : ¬ Own s σ p) (k : Kp s σ H W s' σ' H' W') : OR K mg H' W' p o ∧ ¬ Own s' σ' p ∧ H p ≠ none := by
  obtain ⟨w, r⟩ := r
  have go : ∀ u, H p = some u → Fli.nt u = true → H' p = some u ∧ W' p = none ∧ ¬ Own s' σ' p ∧ H p ≠ none := fun u hu nu => ⟨k.keep p u hu n nu, k.new p w (by rw [hu]; simp) n, (fun z => (k.own p z).elim n (fun z => (by rw [hu] at z; cases z))), by rw [hu]; simp⟩
  cases o with
  | lst ds => obtain ⟨vs, r1, r2⟩ := r; obtain ⟨a, b, c, d⟩ := go _ r1 rfl; exact ⟨⟨b, vs, a, r2.le k.le⟩, c, d⟩
  | obj cc fs => obtain ⟨C, dx, gs, r0, r1, r2⟩ := r; obtain ⟨a, b, c, d⟩ := go _ r1 rfl; exact ⟨⟨b, C, dx, gs, r0, a, r2.le k.le⟩, c, d⟩
  | dic kvs => obtain ⟨gs, r1, r2⟩ := r; obtain ⟨a, b, c, d⟩ := go _ r1 rfl; exact ⟨⟨b, gs, a, r2.le k.le⟩, c, d⟩
  | dit kvs => obtain ⟨gs, r1, r2⟩ := r; obtain ⟨a, b, c, d⟩ := go _ r1 rfl; exact ⟨⟨b, gs, a, r2.le k.le⟩, c, d⟩
end
end Fli
set_option Elab.async false
set_option linter.all false
set_option maxRecDepth 100000
set_option maxHeartbeats 4000000
namespace Fli
open PySem PySem.Spec PyProof.Rows L2
variable [HW]
/-! a list several times -/
def repL : D → D → Option D
  | .lst ds, .int k => if -(2 ^ 63) ≤ k ∧ k < 2 ^ 63 ∧ ds.length * k.toNat ≤ sizeLine then some (.lst (List.replicate k.toNat ds).flatten) else none
  | _, _ => none
section
variable {K : PySem.W.Frag} {mg : Str → Option Value} {W : Hp}
theorem drs_rep {vs : List V} {ds : List D} (r : DRs K mg W vs ds) : ∀ n : Nat, DRs K mg W (List.replicate n vs).flatten (List.replicate n ds).flatten
  | 0 => .nil
  | n + 1 => by
    rw [List.replicate_succ, List.replicate_succ, List.flatten_cons, List.flatten_cons]
    exact r.app (drs_rep r n)
theorem rd_rep : R2D K mg rRep repL := by
  intro x y z vx vy sd σ H W st hx hy hf Q q
  unfold repL at hf
  split at hf
  · split at hf
    · rename_i h
      cases hf
      cases hx with
      | lst sx rx =>
        cases hy
        have l1 := rx.len
        refine ⟨_, _, _, rfl, rfl, st.le _ _ sx, h.1, h.2.1, by rw [l1]; exact h.2.2, fun p hp => ?_⟩
        obtain ⟨g1, g2⟩ := st.newV hp (.lst _)
        exact q _ _ _ g1 g2 (.lst upd_same ((drs_rep rx _).le (Le.upd (st.free hp))))
    · cases hf
  · cases hf
end
end Fli
set_option Elab.async false
set_option linter.all false
set_option maxRecDepth 100000
set_option maxHeartbeats 4000000
namespace Fli
open PySem PySem.Spec PyProof.Rows L2
variable [HW]
/-! in a list of data of any depth -/
section
variable {K : PySem.W.Frag} {mg : Str → Option Value}
end
end Fli
set_option Elab.async false
set_option linter.all false
set_option maxRecDepth 100000
set_option maxHeartbeats 4000000
namespace Fli
open PySem PySem.Spec PyProof.Rows L2
variable [HW]
/-! one for over any items -/
section
variable {K : PySem.W.Frag} {mg : Str → Option Value} {b : Bool} {g : TG} {asg : D → S → Option S} {mi : M (List D)} {c : M Bool} {el : M D} {vs : List Nat}
end
section
variable {X : Cx} {b : Bool} {elt tg it : Expr} {ifs : List Expr} {scope : Scope} {own : List (Str × Nat)} {vs : List Nat} {pos spos py : Pos} {g : TG} {asg : D → S → Option S} {mi : M (List D)} {c : M Bool} {el : M D}
end
end Fli
set_option Elab.async false
set_option linter.all false
set_option maxRecDepth 100000
set_option maxHeartbeats 4000000
namespace Fli
open PySem PySem.Spec PyProof.Rows L2
variable [HW]
/-! in a tuple of data of any depth -/
section
variable {X : Cx}
end
section
variable {K : PySem.W.Frag} {mg : Str → Option Value}
end
end Fli
set_option Elab.async false
set_option linter.all false
set_option maxRecDepth 100000
set_option maxHeartbeats 4000000
namespace Fli
open PySem PySem.Spec PyProof.Rows L2
variable [HW]
/-! a text several times, any, divmod, an element of an own list as a target -/
structure TxtJ (K : PySem.W.Frag) (mg : Str → Option Value) : Prop extends Txt K mg where
  any : mg "any" = none
  divmod : mg "divmod" = none
section
variable {K : PySem.W.Frag} {mg : Str → Option Value}
end
section
variable {X : Cx} {pr : List Nat} {x y : Str} {p2 p3 py pt pc pos pn : Pos} {ki kt : Nat} {i j : Nat} {k : Int} {a : Expr} {as : List Expr} {ms : M (List D)}
end
end Fli
set_option Elab.async false
set_option linter.all false
set_option maxRecDepth 100000
set_option maxHeartbeats 4000000
namespace Fli
open PySem PySem.Spec PyProof.Rows L2
variable [HW]
/-! own lists made one behind another, kept in a list, and lent one behind another -/
section
variable {K : PySem.W.Frag} {mg : Str → Option Value}
theorem OR.upd {H W : Hp} {a p : Addr} {o : O} {u : HO} (r : OR K mg H W a o) (n : a ≠ p) : OR K mg (upd H p u) W a o := by
  obtain ⟨w, r⟩ := r
  refine ⟨w, ?_⟩
  cases o with
  | lst ds => obtain ⟨vs, r1, r2⟩ := r; exact ⟨vs, by rw [upd_ne n]; exact r1, r2⟩
  | obj cc fs => obtain ⟨C, dx, gs, r0, r1, r2⟩ := r; exact ⟨C, dx, gs, r0, by rw [upd_ne n]; exact r1, r2⟩
  | dic kvs => obtain ⟨gs, r1, r2⟩ := r; exact ⟨gs, by rw [upd_ne n]; exact r1, r2⟩
  | dit kvs => obtain ⟨gs, r1, r2⟩ := r; exact ⟨gs, by rw [upd_ne n]; exact r1, r2⟩
theorem OR.there {H W : Hp} {a : Addr} {o : O} (r : OR K mg H W a o) : H a ≠ none := by
  obtain ⟨w, r⟩ := r
  cases o with
  | lst ds => obtain ⟨vs, r1, r2⟩ := r; rw [r1]; simp
  | obj cc fs => obtain ⟨C, dx, gs, r0, r1, r2⟩ := r; rw [r1]; simp
  | dic kvs => obtain ⟨gs, r1, r2⟩ := r; rw [r1]; simp
  | dit kvs => obtain ⟨gs, r1, r2⟩ := r; rw [r1]; simp
/-- own lists that no slot has -/
inductive Jg (K : PySem.W.Frag) (mg : Str → Option Value) (s : S) (σ : L2.St) (H W H0 : Hp) : List Addr → List O → Prop
  | nil : Jg K mg s σ H W H0 [] []
  | cons {a : Addr} {o : O} {as : List Addr} {os : List O} : OR K mg H W a o → ¬ Own s σ a → H0 a = none → a ∉ as → Jg K mg s σ H W H0 as os → Jg K mg s σ H W H0 (a :: as) (o :: os)
variable {s s' : S} {σ σ' : L2.St} {H W H' W' H0 : Hp} {as : List Addr} {os : List O}
theorem Jg.step (k : Kp s σ H W s' σ' H' W') (j : Jg K mg s σ H W H0 as os) : Jg K mg s' σ' H' W' H0 as os := by
  induction j with
  | nil => exact .nil
  | cons r n h0 na _ ih =>
    obtain ⟨r', n', _⟩ := r.step n k
    exact .cons r' n' h0 na ih
theorem Jg.up {p : Addr} {u : HO} (j : Jg K mg s σ H W H0 as os) (n : p ∉ as) : Jg K mg s σ (upd H p u) W H0 as os := by
  induction j with
  | nil => exact .nil
  | cons r nn h0 na _ ih => exact .cons (r.upd fun e => n (by rw [e]; simp)) nn h0 na (ih fun z => n (List.mem_cons_of_mem _ z))
theorem Jg.len (j : Jg K mg s σ H W H0 as os) : as.length = os.length := by
  induction j with
  | nil => rfl
  | cons _ _ _ _ _ ih => simp [ih]
theorem Jg.sub {s2 : S} {σ2 : L2.St} (j : Jg K mg s σ H W H0 as os) (h : ∀ a, Own s2 σ2 a → Own s σ a) : Jg K mg s2 σ2 H W H0 as os := by
  induction j with
  | nil => exact .nil
  | cons r n h0 na _ ih => exact .cons r (fun z => n (h _ z)) h0 na ih
theorem Jg.base {H1 : Hp} (j : Jg K mg s σ H W H1 as os) (h : ∀ a, H1 a = none → H0 a = none) : Jg K mg s σ H W H0 as os := by
  induction j with
  | nil => exact .nil
  | cons r n h1 na _ ih => exact .cons r n (h _ h1) na ih
variable {b : Bool} {g : TG} {asg : D → S → Option S} {mi : M (List D)} {mo : M O} {vs : List Nat}
end
section
variable {X : Cx}
end
end Fli
set_option Elab.async false
set_option linter.all false
set_option maxRecDepth 100000
set_option maxHeartbeats 4000000
namespace Fli
open PySem PySem.Spec PyProof.Rows L2
variable [HW]
/-! l.index(x), l a list of texts -/
section
variable {X : Cx} {o e : Expr} {ma mb : M D} {apos pos : Pos}
end
end Fli
set_option Elab.async false
set_option linter.all false
set_option maxRecDepth 100000
set_option maxHeartbeats 4000000
namespace Fli
open PySem PySem.Spec PyProof.Rows L2
variable [HW]
/-! x is not y, both true or false -/
section
variable {X : Cx} {K : PySem.W.Frag} {mg : Str → Option Value}
end
end Fli
set_option Elab.async false
set_option linter.all false
set_option maxRecDepth 100000
set_option maxHeartbeats 4000000
namespace Fli
open PySem PySem.Spec PyProof.Rows L2
variable [HW]
/-! own dicts with texts and ints for keys: made empty, written, read -/
section
variable {K : PySem.W.Frag} {mg : Str → Option Value} {sd s' : S} {σ : L2.St} {H W : Hp}
end
section
variable {X : Cx} {e f a : Expr} {m ma mb mc : M D} {x : Str} {p2 pos apos cpos : Pos}
/-- {} -/
theorem o_knew : OE X (.Dict [] [] pos) (fun s => some (.dic [], s)) := PE.imp (pe_dnewK) fun σ H Q ⟨sd, W, o, sd', st, em, q⟩ => fun p hp => by
  cases em
  obtain ⟨z1, z2⟩ := st.newO hp (.dK [])
  exact q p _ W z1 z2 ⟨st.free hp, [], upd_same, .nil⟩ (st.notOwn hp) hp
end
end Fli
set_option Elab.async false
set_option linter.all false
set_option maxRecDepth 100000
set_option maxHeartbeats 4000000
namespace Fli
open PySem L2
variable [HW]
/-! a call without arguments -/
section
variable {X : Cx} {k n : Nat} {N : List Str} {body : MS} {x : Str} {p pos : Pos}
end
end Fli
set_option Elab.async false
set_option linter.all false
set_option maxRecDepth 100000
set_option maxHeartbeats 4000000
namespace Fli
open PySem PySem.Spec PyProof.Rows L2
variable [HW]
/-! for k, v in x.items(): the slot's own dict is put away meanwhile -/
section
variable {K : PySem.W.Frag} {mg : Str → Option Value} {pr : List Nat} {ED : Ends} {sd : S} {σ : L2.St} {H W : Hp} {out : Out} {gs : TGs} {fs : List D → S → Option S} {m : MS}
/-- the slot is put away: its object is known to no one -/
theorem St.away {i : Nat} {o : O} {a : Addr} {u : HO} (st : St K mg sd σ H W) (e : sd[i]? = some (some (.own o))) (ea : σ[i]? = some (some (.ref a))) (w : W a = none) : St K mg (sd.set i none) σ (upd H a u) W ∧ (∀ b, Own (sd.set i none) σ b → Own sd σ b) ∧ ¬ Own (sd.set i none) σ a := by
  have back : ∀ (j : Nat) (x : A), (sd.set i none)[j]? = some (some x) → i ≠ j ∧ sd[j]? = some (some x) := fun j x h => by
    by_cases z : i = j
    · subst z
      by_cases l : i < sd.length
      · rw [List.getElem?_set_self l] at h; cases h
      · rw [List.getElem?_eq_none (by rw [List.length_set]; omega)] at h; cases h
    · rw [List.getElem?_set_ne z] at h; exact ⟨z, h⟩
  have ne : ∀ (j : Nat) (u : O) (x : Addr), i ≠ j → sd[j]? = some (some (.own u)) → σ[j]? = some (some (.ref x)) → x ≠ a := fun j u x z h h2 q => z (st.inj i j o u a e h ea (q ▸ h2))
  refine ⟨⟨st.tabs.upd (fun ps => by obtain ⟨a', q1, q2⟩ := st.own i o e; rw [ea] at q1; cases q1; exact q2.mt ps), fun b o h => ?_, by rw [List.length_set]; exact st.len, fun j d h => st.dat j d (back j _ h).2, fun j u h => ?_, fun j k u v x h1 h2 => st.inj j k u v x (back j _ h1).2 (back k _ h2).2⟩, fun b ⟨j, u, h1, h2⟩ => ⟨j, u, (back j _ h1).2, h2⟩, fun ⟨j, u, h1, h2⟩ => ?_⟩
  · rw [upd_ne (fun z => by rw [z, w] at h; cases h)]; exact st.le b o h
  · obtain ⟨z, h⟩ := back j _ h
    obtain ⟨x, e1, w1, r⟩ := st.own j u h
    have nx := ne j u x z h e1
    refine ⟨x, e1, w1, ?_⟩
    cases u with
    | lst ds => obtain ⟨vs, r1, r2⟩ := r; exact ⟨vs, by rw [upd_ne nx]; exact r1, r2⟩
    | obj cc fs => obtain ⟨C, dx, gs, r0, r1, r2⟩ := r; exact ⟨C, dx, gs, r0, by rw [upd_ne nx]; exact r1, r2⟩
    | dic kvs => obtain ⟨gs, r1, r2⟩ := r; exact ⟨gs, by rw [upd_ne nx]; exact r1, r2⟩
    | dit kvs => obtain ⟨gs, r1, r2⟩ := r; exact ⟨gs, by rw [upd_ne nx]; exact r1, r2⟩
  · obtain ⟨z, h⟩ := back j _ h1
    exact ne j u a z h h2 rfl
end
section
variable {X : Cx} {pr : List Nat} {x : Str} {sts : List Stmt} {pos p2 apos cpos tpos : Pos} {elts : List Expr} {kk : Nat} {gs : TGs} {fs : List D → S → Option S} {m : MS}
end
end Fli
set_option Elab.async false
set_option linter.all false
set_option maxRecDepth 100000
set_option maxHeartbeats 4000000
namespace Fli
open PySem PySem.Spec PyProof.Rows L2
variable [HW]
/-! x = {k: v for ..}, x a local name on the same line -/
section
variable {X : Cx} {i : Nat} {y : Str} {py pos spos : Pos} {kx vx tg it0 : Expr} {ifs : List Expr} {scope : Scope} {own : List (Str × Nat)} {g : TG}
end
/-! list(d), d a dict -/
end Fli
set_option Elab.async false
set_option linter.all false
set_option maxRecDepth 100000
set_option maxHeartbeats 4000000
namespace Fli
open PySem PySem.Spec PyProof.Rows L2
variable [HW]
/-! x[::-1] of a list -/
section
variable {X : Cx} {e st : Expr} {te : TE} {ts : TO} {p2 pos : Pos}
end
end Fli
set_option Elab.async false
set_option linter.all false
set_option maxRecDepth 100000
set_option maxHeartbeats 4000000
namespace Fli
open PySem L2
variable [HW]
/-! calls of defs that ask for repr, from such a def -/
section
variable {X : Cx} {k n j : Nat} {N ps : List Str} {body : MS} {x y : Str} {p pos p2 : Pos} {e : Expr} {es : List Expr} {ms : M (List D)}
end
/-! a, b = x, x a list -/
end Fli
set_option Elab.async false
set_option linter.all false
set_option maxRecDepth 100000
set_option maxHeartbeats 4000000
namespace Fli
open PySem PySem.Spec PyProof.Rows L2
/-! sorted of texts: the sorted list is the only one -/
variable [HW]
/-! sorted(x) of a list or a tuple of texts -/
section
variable {prog : Program} {w : World} {A : Around} {E : Value → Shared → Prop} {s : Shared}
end
section
variable {X : Cx}
end
section
variable {X : Cx} {x : Str} {p pos : Pos} {e : Expr} {es : List Expr}
end
structure TxtS (K : PySem.W.Frag) (mg : Str → Option Value) : Prop extends TxtJ K mg where
  sorted : mg "sorted" = none
end Fli
set_option linter.all false
namespace Fli
/-! the search, layer by layer -/
section
variable {L E V : Type} [DecidableEq L]
def look (f : List (L × V)) (m : L) : Option V := (f.find? fun q => decide (q.1 = m)).map (·.2)
def visit (upd : V → E → L → V) (h : L) (st : List (L × V) × List L) (e : E × L) : List (L × V) × List L := match look st.1 e.2 with
  | some _ => st
  | none => match look st.1 h with
    | some v => (st.1 ++ [(e.2, upd v e.1 e.2)], st.2 ++ [e.2])
    | none => st
def expand (upd : V → E → L → V) (suc : L → List (E × L)) (st : List (L × V) × List L) (h : L) : List (L × V) × List L := (suc h).foldl (visit upd h) st
def layer (upd : V → E → L → V) (suc : L → List (E × L)) (st : List (L × V) × List L) : List (L × V) × List L := st.2.foldl (expand upd suc) (st.1, [])
def within (suc : L → List (E × L)) (l : L) : Nat → L → Prop
  | 0, m => m = l
  | k + 1, m => within suc l k m ∨ ∃ h e, within suc l k h ∧ (e, m) ∈ suc h
inductive Val (upd : V → E → L → V) (suc : L → List (E × L)) (l : L) (v0 : V) : Nat → L → V → Prop
  | z : Val upd suc l v0 0 l v0
  | s {k : Nat} {h m : L} {v : V} {e : E} : Val upd suc l v0 k h v → (e, m) ∈ suc h → Val upd suc l v0 (k + 1) m (upd v e m)
variable {upd : V → E → L → V} {suc : L → List (E × L)} {l : L} {v0 : V}
theorem within_mono {j k : Nat} {m : L} (h : j ≤ k) (w : within suc l j m) : within suc l k m := by
  induction h with
  | refl => exact w
  | step _ ih => exact .inl ih
theorem look_none {f : List (L × V)} {m : L} : look f m = none ↔ m ∉ f.map (·.1) := by
  unfold look
  rw [Option.map_eq_none_iff, List.find?_eq_none]
  constructor
  · intro h z
    obtain ⟨q, hq, e⟩ := List.mem_map.mp z
    exact h q hq (decide_eq_true e)
  · intro h q hq z
    exact h (List.mem_map.mpr ⟨q, hq, of_decide_eq_true z⟩)
theorem look_some {f : List (L × V)} {m : L} {v : V} (h : look f m = some v) : (m, v) ∈ f := by
  unfold look at h
  obtain ⟨q, hq, rfl⟩ := Option.map_eq_some_iff.mp h
  have e := List.find?_some hq
  have e : q.1 = m := of_decide_eq_true e
  subst e
  exact List.mem_of_find?_eq_some hq
theorem look_of {f : List (L × V)} {m : L} {v : V} (nd : (f.map (·.1)).Nodup) (h : (m, v) ∈ f) : look f m = some v := by
  cases e : look f m with
  | none => exact absurd (List.mem_map.mpr ⟨_, h, rfl⟩) (look_none.mp e)
  | some u =>
    have hu := look_some e
    clear e
    induction f with
    | nil => cases h
    | cons p f ih =>
      rw [List.map_cons, List.nodup_cons] at nd
      rcases List.mem_cons.mp h with e1 | h1
      · rcases List.mem_cons.mp hu with e2 | h2
        · rw [← e2] at e1; cases e1; rfl
        · exact absurd (List.mem_map.mpr ⟨_, h2, by rw [← e1]⟩) nd.1
      · rcases List.mem_cons.mp hu with e2 | h2
        · exact absurd (List.mem_map.mpr ⟨_, h1, by rw [← e2]⟩) nd.1
        · exact ih nd.2 h1 h2
/-- within a layer -/
structure InL (upd : V → E → L → V) (suc : L → List (E × L)) (f : List (L × V)) (lat : List L) (new : List (L × V)) : Prop where
  nd : ((f ++ new).map (·.1)).Nodup
  val : ∀ p ∈ new, ∃ h e vh, h ∈ lat ∧ (e, p.1) ∈ suc h ∧ (h, vh) ∈ f ∧ p.2 = upd vh e p.1
theorem visit_ok {f new : List (L × V)} {lat : List L} (i : InL upd suc f lat new) {h : L} {q : E × L} (hh : h ∈ lat) (hf : h ∈ f.map (·.1)) (hq : q ∈ suc h) : ∃ new', visit upd h (f ++ new, new.map (·.1)) q = (f ++ new', new'.map (·.1)) ∧ InL upd suc f lat new' ∧ (∃ r, new' = new ++ r) ∧ q.2 ∈ (f ++ new').map (·.1) := by
  unfold visit
  cases e : look (f ++ new) q.2 with
  | some v => exact ⟨new, by simp only [e], i, ⟨[], by simp⟩, List.mem_map.mpr ⟨_, look_some e, rfl⟩⟩
  | none =>
    have hn := look_none.mp e
    obtain ⟨p, hp, rfl⟩ := List.mem_map.mp hf
    have e2 : look (f ++ new) p.1 = some p.2 := look_of i.nd (List.mem_append_left _ hp)
    refine ⟨new ++ [(q.2, upd p.2 q.1 q.2)], by simp only [e, e2, List.append_assoc, List.map_append, List.map_cons, List.map_nil], ⟨?_, fun r hr => ?_⟩, ⟨_, rfl⟩, by simp⟩
    · rw [← List.append_assoc, List.map_append, List.nodup_append]
      exact ⟨i.nd, by simp, fun a ha b hb => by simp at hb; rw [hb]; exact fun z => hn (z ▸ ha)⟩
    · rcases List.mem_append.mp hr with hr | hr
      · exact i.val r hr
      · simp at hr
        subst hr
        exact ⟨p.1, q.1, p.2, hh, hq, hp, rfl⟩
theorem visits_ok {f : List (L × V)} {lat : List L} {h : L} (hh : h ∈ lat) (hf : h ∈ f.map (·.1)) : ∀ (qs : List (E × L)) (new : List (L × V)), InL upd suc f lat new → (∀ q ∈ qs, q ∈ suc h) → ∃ new', qs.foldl (visit upd h) (f ++ new, new.map (·.1)) = (f ++ new', new'.map (·.1)) ∧ InL upd suc f lat new' ∧ (∃ r, new' = new ++ r) ∧ ∀ q ∈ qs, q.2 ∈ (f ++ new').map (·.1)
  | [], new, i, _ => ⟨new, rfl, i, ⟨[], by simp⟩, fun _ hq => nomatch hq⟩
  | q :: qs, new, i, hs => by
    obtain ⟨n1, e1, i1, ⟨r1, x1⟩, m1⟩ := visit_ok i hh hf (hs q (by simp))
    obtain ⟨n2, e2, i2, ⟨r2, x2⟩, m2⟩ := visits_ok hh hf qs n1 i1 (fun q hq => hs q (by simp [hq]))
    refine ⟨n2, by rw [List.foldl_cons, e1, e2], i2, ⟨r1 ++ r2, by rw [x2, x1, List.append_assoc]⟩, fun z hz => ?_⟩
    rcases List.mem_cons.mp hz with e | hz
    · subst e
      rw [x2, ← List.append_assoc, List.map_append]
      exact List.mem_append_left _ m1
    · exact m2 z hz
theorem expands_ok {f : List (L × V)} {lat : List L} : ∀ (hs : List L) (new : List (L × V)), InL upd suc f lat new → (∀ h ∈ hs, h ∈ lat ∧ h ∈ f.map (·.1)) → ∃ new', hs.foldl (expand upd suc) (f ++ new, new.map (·.1)) = (f ++ new', new'.map (·.1)) ∧ InL upd suc f lat new' ∧ (∃ r, new' = new ++ r) ∧ ∀ h ∈ hs, ∀ q ∈ suc h, q.2 ∈ (f ++ new').map (·.1)
  | [], new, i, _ => ⟨new, rfl, i, ⟨[], by simp⟩, fun _ hq => nomatch hq⟩
  | h :: hs, new, i, hl => by
    obtain ⟨n1, e1, i1, ⟨r1, x1⟩, m1⟩ := visits_ok (upd := upd) (suc := suc) (hl h (by simp)).1 (hl h (by simp)).2 (suc h) new i (fun q hq => hq)
    obtain ⟨n2, e2, i2, ⟨r2, x2⟩, m2⟩ := expands_ok hs n1 i1 (fun q hq => hl q (by simp [hq]))
    refine ⟨n2, by rw [List.foldl_cons]; unfold expand at e2 ⊢; rw [e1, e2], i2, ⟨r1 ++ r2, by rw [x2, x1, List.append_assoc]⟩, fun z hz q hq => ?_⟩
    rcases List.mem_cons.mp hz with e | hz
    · subst e
      rw [x2, ← List.append_assoc, List.map_append]
      exact List.mem_append_left _ (m1 q hq)
    · exact m2 z hz q hq
/-- behind k layers -/
structure Lay (upd : V → E → L → V) (suc : L → List (E × L)) (l : L) (v0 : V) (k : Nat) (st : List (L × V) × List L) : Prop where
  nd : (st.1.map (·.1)).Nodup
  mem : ∀ m, m ∈ st.1.map (·.1) ↔ within suc l k m
  lat : ∀ m, m ∈ st.2 ↔ within suc l k m ∧ ∀ j, j < k → ¬ within suc l j m
  val : ∀ m v, (m, v) ∈ st.1 → ∃ j, j ≤ k ∧ Val upd suc l v0 j m v ∧ within suc l j m ∧ ∀ i, i < j → ¬ within suc l i m
theorem lay_0 : Lay upd suc l v0 0 ([(l, v0)], [l]) where
  nd := by simp
  mem m := by simp [within]
  lat m := by simp [within]
  val m v h := by
    simp at h
    obtain ⟨rfl, rfl⟩ := h
    exact ⟨0, Nat.le_refl _, .z, rfl, fun i hi => absurd hi (Nat.not_lt_zero _)⟩
theorem lay_s {k : Nat} {st : List (L × V) × List L} (y : Lay upd suc l v0 k st) : Lay upd suc l v0 (k + 1) (layer upd suc st) ∧ ∃ new, (layer upd suc st).1 = st.1 ++ new ∧ (layer upd suc st).2 = new.map (·.1) := by
  obtain ⟨f, lat⟩ := st
  have sub : ∀ h ∈ lat, h ∈ lat ∧ h ∈ f.map (·.1) := fun h hh => ⟨hh, (y.mem h).mpr ((y.lat h).mp hh).1⟩
  obtain ⟨new, e, i, _, m⟩ := expands_ok (upd := upd) (suc := suc) (f := f) (lat := lat) lat [] ⟨by simpa using y.nd, fun _ h => nomatch h⟩ sub
  have e : layer upd suc (f, lat) = (f ++ new, new.map (·.1)) := by
    unfold layer
    simpa using e
  rw [e]
  have keys : ∀ m, m ∈ (f ++ new).map (·.1) ↔ within suc l (k + 1) m := fun z => by
    constructor
    · intro h
      rw [List.map_append, List.mem_append] at h
      rcases h with h | h
      · exact .inl ((y.mem z).mp h)
      · obtain ⟨p, hp, rfl⟩ := List.mem_map.mp h
        obtain ⟨h, e, vh, h1, h2, _, _⟩ := i.val p hp
        exact .inr ⟨h, e, ((y.lat h).mp h1).1, h2⟩
    · rintro (h | ⟨h, e, h1, h2⟩)
      · rw [List.map_append]; exact List.mem_append_left _ ((y.mem z).mpr h)
      · by_cases hl : h ∈ lat
        · exact m h hl (e, z) h2
        · have : ¬ ∀ j, j < k → ¬ within suc l j h := fun q => hl ((y.lat h).mpr ⟨h1, q⟩)
          obtain ⟨j, hj, hw⟩ : ∃ j, j < k ∧ within suc l j h := Classical.byContradiction fun q => this fun j hj hw => q ⟨j, hj, hw⟩
          rw [List.map_append]
          exact List.mem_append_left _ ((y.mem z).mpr (within_mono (j := j + 1) (by omega) (.inr ⟨h, e, hw, h2⟩)))
  have knd : ∀ m, m ∈ new.map (·.1) → m ∉ f.map (·.1) := fun z hz hf => by
    have := i.nd
    rw [List.map_append, List.nodup_append] at this
    exact this.2.2 z hf z hz rfl
  refine ⟨⟨i.nd, keys, fun z => ?_, fun z v h => ?_⟩, new, rfl, rfl⟩
  · constructor
    · intro h
      refine ⟨(keys z).mp (by rw [List.map_append]; exact List.mem_append_right _ h), fun j hj w => knd z h ((y.mem z).mpr (within_mono (by omega) w))⟩
    · rintro ⟨h1, h2⟩
      have := (keys z).mpr h1
      rw [List.map_append, List.mem_append] at this
      rcases this with q | q
      · exact absurd ((y.mem z).mp q) (h2 k (by omega))
      · exact q
  · rcases List.mem_append.mp h with h | h
    · obtain ⟨j, h1, h2⟩ := y.val z v h
      exact ⟨j, by omega, h2⟩
    · obtain ⟨g, e, vh, h1, h2, h3, h4⟩ := i.val _ h
      simp only at h2 h4
      obtain ⟨j, j1, j2, j3, j4⟩ := y.val g vh h3
      have hj : j = k := by
        rcases Nat.lt_or_eq_of_le j1 with q | q
        · exact absurd j3 (((y.lat g).mp h1).2 j q)
        · exact q
      subst hj
      refine ⟨j + 1, Nat.le_refl _, ?_, (keys z).mp (List.mem_map.mpr ⟨(z, v), List.mem_append_right _ h, rfl⟩), fun i hi w => ?_⟩
      · rw [h4]; exact .s j2 h2
      · exact knd z (List.mem_map.mpr ⟨(z, v), h, rfl⟩) ((y.mem z).mpr (within_mono (by omega) w))
def iter (upd : V → E → L → V) (suc : L → List (E × L)) : Nat → List (L × V) × List L → List (L × V) × List L
  | 0, st => st
  | n + 1, st => iter upd suc n (layer upd suc st)
theorem lay_iter : ∀ (n : Nat) {k : Nat} {st : List (L × V) × List L}, Lay upd suc l v0 k st → Lay upd suc l v0 (k + n) (iter upd suc n st)
  | 0, _, _, y => y
  | n + 1, k, st, y => by
    have := lay_iter n (lay_s y).1
    rw [show k + (n + 1) = k + 1 + n by omega]
    exact this
theorem iter_nil : ∀ (n : Nat) {f : List (L × V)}, iter upd suc n (f, []) = (f, [])
  | 0, _ => rfl
  | n + 1, f => iter_nil n
theorem sub_len {α : Type} [DecidableEq α] : ∀ {xs ys : List α}, xs.Nodup → (∀ x ∈ xs, x ∈ ys) → xs.length ≤ ys.length
  | [], _, _, _ => Nat.zero_le _
  | x :: xs, ys, nd, h => by
    rw [List.nodup_cons] at nd
    have hx := h x (by simp)
    have ih := sub_len (xs := xs) (ys := ys.erase x) nd.2 (fun y hy => by
      have ne : y ≠ x := fun e => nd.1 (by rw [← e]; exact hy)
      exact (List.mem_erase_of_ne ne).mpr (h y (by simp [hy])))
    rw [List.length_erase_of_mem hx] at ih
    have : 0 < ys.length := List.length_pos_of_mem hx
    rw [List.length_cons]; omega
/-- something new in each layer, or no more -/
theorem grows : ∀ (n : Nat) {k : Nat} {st : List (L × V) × List L}, Lay upd suc l v0 k st → (iter upd suc n st).2 ≠ [] → st.1.length + n ≤ (iter upd suc n st).1.length
  | 0, _, _, _, _ => Nat.le_refl _
  | n + 1, k, st, y, h => by
    obtain ⟨y1, new, e1, e2⟩ := lay_s y
    have ih := grows n y1 h
    have : new ≠ [] := fun z => by
      apply h
      show (iter upd suc n (layer upd suc st)).2 = []
      have : layer upd suc st = ((layer upd suc st).1, []) := Prod.ext rfl (by rw [e2, z]; rfl)
      rw [this, iter_nil]
    have : 0 < new.length := List.length_pos_iff.mpr this
    rw [e1, List.length_append] at ih
    show st.1.length + (n + 1) ≤ (iter upd suc n (layer upd suc st)).1.length
    omega
theorem ends {U : List L} (hU : ∀ h, h ∈ U → ∀ e m, (e, m) ∈ suc h → m ∈ U) (hl : l ∈ U) {n : Nat} (hn : U.length ≤ n) : (iter upd suc n ([(l, v0)], [l])).2 = [] := by
  have y := lay_iter n (lay_0 (upd := upd) (suc := suc) (l := l) (v0 := v0))
  refine Classical.byContradiction fun z => ?_
  have g := grows n (lay_0 (upd := upd) (suc := suc) (l := l) (v0 := v0)) z
  have wU : ∀ k m, within suc l k m → m ∈ U := by
    intro k
    induction k with
    | zero => intro m h; rw [show m = l from h]; exact hl
    | succ k ih =>
      rintro m (h | ⟨h, e, h1, h2⟩)
      · exact ih m h
      · exact hU h (ih h h1) e m h2
  have s := sub_len y.nd (fun m hm => wU _ m ((y.mem m).mp hm))
  rw [List.length_map] at s
  simp at g
  omega
end
end Fli
set_option Elab.async false
set_option linter.all false
set_option maxRecDepth 100000
set_option maxHeartbeats 4000000
namespace Fli
open PySem PySem.Spec PyProof.Rows L2
variable [HW]

/-! exceptions of own classes over a built-in one, whose __init__ says super().__init__("..") and keeps one field -/
abbrev scI (f : Str) : Scope := { kind := .function, names := [(Str.ofString "self", .local), (f, .local), (Str.ofString "__class__", .free), (Str.ofString "super", .globalImplicit)], isGenerator := false, isCoroutine := false, more := [] }
abbrev bdI (f tx : Str) (j : Nat) (p0 p1 p2 p3 p4 p5 p6 p7 p8 p9 : Pos) : List Stmt := [.Expr (.Call (.Attribute (.Call (.Name "super" p0) [] [] p1) "__init__" p2) [.Constant (.str tx) j p3] [] p4) p5, .Assign [.Attribute (.Name "self" p6) f p7] (.Name f p8) p9]
abbrev arI (f : Str) (q0 q1 : Pos) : Arguments := { posonlyargs := [], args := [{ arg := "self", annotation := none, pos := q0 }, { arg := f, annotation := none, pos := q1 }], vararg := none, kwonlyargs := [], kw_defaults := [], kwarg := none, defaults := [] }
/-- a built-in class and what is known of it -/
structure ExB (B newId initId : String) (bmB : List Value) : Prop where
  F : ExcBaseFacts B newId initId bmB
  KF : PySem.W.KxsFacts B initId
  SF : StoreFacts B bmB "object.__setattr__" "object"
/-- what the top has left of the class at C -/
structure ExT (P : Program) (K : PySem.W.Frag) (C : Addr) (f : Str) (B newId initId : String) (bmB : List Value) : Prop where
  eb : ExB B newId initId bmB
  kC : PySem.W.keepIn K (.ref C) = true
  ini : PySem.W.excInitIn K C bmB newId = true
  exC : PySem.W.subIn K (.ref C) (.type "BaseException") = some true
  tyC : PySem.W.typeIn K (.ref C) = some (.type "type")
  sa : PySem.W.findIn K (.ref C) "__setattr__" = some (some (.builtin "object.__setattr__"))
  ov : PySem.W.excOver K C bmB = true
  tk : PySem.W.takerIn K C f = some none
  hd : PySem.W.hasDictIn K C = true
  ga : PySem.W.findIn K (.ref C) "__getattribute__" = some (some (.builtin "BaseException.__getattribute__"))
  gg : PySem.W.findIn K (.ref C) "__getattr__" = some none
  no : PySem.W.findIn K (.ref C) f = some none
  sB : PySem.W.subIn K (.ref C) (.type B) = some true
  sC : PySem.W.mroIn K C (.ref C) = some true
  sup : PySem.W.ks_superIn K C C "__init__" = some (some (.builtin initId))
  op : PySem.W.nsIn K cStatics "thirdparty.any" = some none
  sN : PySem.W.nsIn K mainGlobals "super" = some none
  top : (P.main.scope.names.lookup ("super" : Str)).isSome = false
  fn : ∃ (fI cda cc : Addr) (q tx : Str) (q0 q1 p0 p1 p2 p3 p4 p5 p6 p7 p8 p9 : Pos) (j : Nat) (oc kV doc pm ct ccl cl : Value) (od an cdd cld : Option Addr) (osl ccs csl : Array (Option Value)) (vs : Array Value) (file : Str) (tf : Tok),
    PySem.W.findIn K (.ref C) "__init__" = some (some (.ref fI)) ∧ PySem.W.typeIn K (.ref fI) = some (.type "function") ∧
    K.lookup fI = some ⟨oc, od, .func (PySem.W.fnX "__init__" q (arI f q0 q1) (bdI f tx j p0 p1 p2 p3 p4 p5 p6 p7 p8 p9) (scI f) [("__class__", cc)] .none kV doc pm an (.ref cda) ct), osl⟩ ∧
    PySem.W.codeIn K (.ref cda) q = true ∧ K.lookup cda = some ⟨ccl, cdd, .fields vs, ccs⟩ ∧ vs[2]? = some (.str file tf) ∧ ((P.main.file : Str) == file) = true ∧ (p2.endLine == p4.line) = true ∧ K.lookup cc = some ⟨cl, cld, .cell (some (.ref C)), csl⟩
/-- a field's name -/
structure FdN (f : Str) : Prop where
  S : NdefX.NScope ["self", f, "__class__"] ["self", f] ["__class__"] (scI f)
  su : (scI f).names.lookup ("super" : Str) = some .globalImplicit
  cl : (scI f).names.lookup ("__class__" : Str) = some .free
  se : (scI f).names.lookup ("self" : Str) = some .local
  fl : (scI f).names.lookup f = some .local
  db : (f == ("__debug__" : Str)) = false
  cd : (f == ("__classdict__" : Str)) = false
  bn : ∀ (q : Str) (q0 q1 : Pos) (body : List Stmt) (sc : Scope) (cl : List (Str × Addr)) (kV doc pm cdv ct : Value) (an : Option Addr) (x u : Value), bindArgs (PySem.W.fnX "__init__" q (arI f q0 q1) body sc cl .none kV doc pm an cdv ct) ⟨[x, u], []⟩ = pure [((("self" : Str), x) : Str × Value), (f, u)]
theorem fdn_index : FdN "index" := ⟨NdefX.nscope_by (by decide +kernel), by decide +kernel, by decide +kernel, by decide +kernel, by decide +kernel, by decide +kernel, by decide +kernel, fun _ _ _ _ _ _ _ _ _ _ _ _ _ _ => rfl⟩
end Fli
set_option Elab.async false
set_option linter.all false
set_option maxRecDepth 100000
set_option maxHeartbeats 4000000
namespace Fli
open PySem PySem.Spec PyProof.Rows L2
variable [HW]

section
variable {prog : Program} {w : World} {A : Around} {hp : Heap} {g : Array GenState} {dr : Drawn} {t : Nat} {os : OsState} {K : PySem.W.Frag} {C x : Addr} {B : String} {bmB : List Value} {name : Str} {tk : Tok} {v : Value} {fv : Array Value} {R : Result → Shared → Prop}
/-- object.__setattr__ of an exception without a dict -/
theorem osa_first (SF : StoreFacts B bmB "object.__setattr__" "object") (X : K.In hp) (hx : hp.get? x = some { cls := .ref C, data := .fields fv }) (ov : PySem.W.excOver K C bmB = true) (ht : PySem.W.takerIn K C name = some none) (hh : PySem.W.hasDictIn K C = true)
    (hq : ∀ h' tk' dx, (∀ b o, b ≠ x → hp.get? b = some o → h'.get? b = some o) → hp.objs.size ≤ dx → dx ≠ x → h'.get? x = some { cls := .ref C, dict := some dx, data := .fields fv } → h'.Ns1 dx (fun y => if y = name then some v else none) → R (.ok (.ret .none)) ⟨h', g, dr, tk', os⟩) :
    codeAny (model prog w) A (.call (.builtin "object.__setattr__") ⟨[.ref x, .str name tk, v], []⟩) R ⟨hp, g, dr, t, os⟩ := by
  refine PySem.W.osa_openX (od := none) SF X ⟨hx, rfl, rfl, trivial⟩ ov ht fun b => ?_
  obtain ⟨cd, hc, hd⟩ := PySem.W.any_some hh
  have lt : x < hp.objs.size := Heap.lt_size hx
  have hx1 : (hp.push { cls := .type "dict", data := .dict #[] }).get? x = some { cls := .ref C, data := .fields fv } := Heap.get?_push_of_some _ hx
  refine wpAny_bind (wpAny_pure (wpAny_bind ?_))
  show wpAny _ _ (instanceDict x true) _ _ _
  unfold instanceDict
  refine wpAny_bind (wpAny_loadPart hx ?_)
  dsimp only
  refine wpAny_bind ((PySem.W.looks_clsIn X hc).here ?_)
  rw [hd]
  (try dsimp only [Bool.not_true])
  (try rw [if_neg (show ¬ (false = true) from by decide)])
  (try rw [if_neg (by simp [typeHasDict])])
  (try dsimp only)
  refine wpAny_bind (wpAny_alloc (wpAny_bind (wpAny_update hx1 ?_)))
  unfold dictMade
  refine wpAny_pure ?_
  show wpAny _ _ (Builtin.ObjectAttr.storeInDict hp.objs.size (.str name tk) name v) _ _ _
  refine HandSPX.store_in_new ⟨_, #[], _, (Heap.get?_update_ne _ _ _ _ (Nat.ne_of_gt lt)).trans (Heap.get?_push_at rfl rfl), rfl, fun e he => absurd he (by simp), fun _ => rfl⟩ fun h' tk' hn hs => ?_
  refine hq h' tk' hp.objs.size (fun b o hb ho => ?_) (Nat.le_refl _) (Nat.ne_of_gt lt) ?_ hn
  · exact (hs.2 b (Nat.ne_of_lt (Heap.lt_size ho))).trans ((Heap.get?_update_ne _ _ _ _ hb).trans (Heap.get?_push_of_some _ ho))
  · exact (hs.2 x (Nat.ne_of_lt lt)).trans (Heap.get?_update_self _ hx1 rfl)
end
section
variable {X : Cx} {pins : List (Addr × Obj)} {σ : L2.St} {H : Hp} {s : Shared} {a C : Addr} {f : Str} {B newId initId : String} {bmB : List Value} {y : V} {u : Value} {Q : Unit → Shared → Prop} {E : Value → Shared → Prop} {A : Around}
/-- self.f = y, the object's first one -/
theorem first_field (T : ExT X.prog X.K C f B newId initId bmB) (I : Inv X pins σ H s) (e : H a = some (exo a C none)) (ry : RelV y u)
    (h : ∀ dx s', H dx = none → dx ≠ a → Inv X pins σ (upd (upd H dx (exd dx [(f, y)])) a (exo a C (some dx))) s' → Q () s') : wpAny (model X.prog X.w) A (setAttr (.ref a) f u) Q E s := by
  obtain ⟨t1, ho⟩ := exo_at I.hok e
  obtain ⟨hp, g, dr, t, os⟩ := s
  refine PySem.W.set_plain I.kIn (ox := { cls := .ref C, dict := none, data := .fields #[.ref t1, .none, .none, .none, .bool false, .none] }) (od := none) ⟨ho, rfl, rfl, trivial⟩ T.sa (osa_first T.eb.SF I.kIn ho T.ov T.tk T.hd fun h' tk' dx k dn dne hx hn => ?_)
  have nH : H dx = none := I.hok.fresh dn
  have far : ∀ {b : Addr} {o : Obj}, hp.get? b = some o → b ≠ dx := fun q => Nat.ne_of_lt (Nat.lt_of_lt_of_le (Heap.lt_size q) dn)
  have off : ∀ {b : Addr}, H b = none → b ≠ a := fun n z => by rw [z, e] at n; cases n
  have U : Un X.fs [] H (upd (upd H dx (exd dx [(f, y)])) a (exo a C (some dx))) hp h' := by
    refine ⟨fun b o q n _ _ => k b o (off n) q, fun b o q n _ _ => ⟨o.slots, k b o (off n) q⟩, fun b o q n _ => ?_, fun b o q _ => ?_, fun b zs q => ?_, fun b o z q => ?_, fun b ps q => ⟨#[], ?_⟩⟩
    · rw [upd_ne (off n), upd_ne (far q)]; exact n
    · by_cases z : b = a
      · exact ⟨_, by rw [z]; exact hx⟩
      · exact ⟨o, k b o z q⟩
    · rw [upd_ne (at_ne e q exo_tup), upd_ne (ne_of_none q nH)]; exact q
    · rw [upd_ne (at_ne e q exo_frz), upd_ne (ne_of_none q nH)]; exact q
    · rw [upd_ne (at_ne e q exo_tbl), upd_ne (ne_of_none q nH), q]; simp
  refine h dx _ nH dne (I.un (t' := tk') U fun b o q => ?_)
  by_cases hb : b = a
  · subst hb
    rw [upd_same] at q
    cases q
    exact exo_ok hx
  · rw [upd_ne hb] at q
    by_cases hd : b = dx
    · subst hd
      rw [upd_same] at q
      cases q
      exact exd_ok hn (relO_put (fs := []) ry fun _ => True.intro)
    · rw [upd_ne hd] at q
      refine (I.hok b o q).stay (fun c z hc w => k c z ?_ w) (fun c hc => ?_) fun c zs hc => ?_
      · rcases hc with hc | hc
        · rw [hc]; exact hb
        · exact at_ne e hc exo_own
      · rw [upd_ne (at_ne e hc exo_own), upd_ne (ne_of_none hc nH)]; exact hc
      · rw [upd_ne (at_ne e hc exo_tup), upd_ne (ne_of_none hc nH)]; exact hc
/-- the built-in's __init__, bound to the object at u, called: nothing of it is told -/
theorem bound_init {m : Addr} {us : List Value} {Q : Value → Shared → Prop} (T : ExT X.prog X.K C f B newId initId bmB) (I : Inv X pins σ H s) (e : H a = some (exo a C none)) (hm : s.heap.get? m = some (PySem.W.kxs_mw initId a)) (hl : us.length ≤ sizeLine) (h : ∀ s', Inv X pins σ H s' → Q .none s') :
    wpAny (model X.prog X.w) A (call (.ref m) us) Q E s := by
  obtain ⟨nm, N, qn, bs, bm, hdct, sn, sub, ab, col, dd, k0, k1, k2, k3, k5, hC, hT⟩ := PySem.W.excInit_of I.kIn T.ini
  obtain ⟨t1, ho⟩ := exo_at I.hok e
  obtain ⟨hp, g, dr, tk, os⟩ := s
  refine wpAny_call (codeAny_of_tree ?_)
  show wpAny _ A.in1 (callAny (.ref m) ⟨us, []⟩) _ _ _
  simp only [callAny]
  refine wpAny_bind (wpAny_load hm ?_)
  simp only [PySem.W.kxs_mw, show (Value.type "method-wrapper" == Value.type "method" || Value.type "method-wrapper" == Value.type "builtin_function_or_method" || Value.type "method-wrapper" == Value.type "method-wrapper") = true by decide, if_true]
  refine PySem.W.KFB.if_so (by decide) ?_
  refine wpAny_bind (PySem.W.check_bound_init T.eb.F.toExcCallFacts hC ho rfl (wpAny_bind (wpAny_pure (wpAny_pure ?_))))
  refine ⟨plainId_quiet T.eb.F.init.plain _, codeAny_builtin T.eb.F.initEntry ?_⟩
  refine PySem.W.exc_init_tree (cls := .ref C) (t0 := t1) (dv := none) (c2 := .none) (c3 := .none) (b4 := .bool false) ho hl fun h' k he ht => ?_
  have J := I.write (t' := tk) (x := a) (e := a) (o := exo a C none) (by rw [e]; exact True.intro) (.inl rfl) k ⟨_, he⟩ (exo_ok he)
  have eu : upd H a (exo a C none) = H := by
    funext b
    by_cases hb : b = a
    · rw [hb, upd_same, e]
    · rw [upd_ne hb]
  rw [eu] at J
  exact h _ J
end
end Fli
set_option Elab.async false
set_option linter.all false
set_option maxRecDepth 100000
set_option maxHeartbeats 4000000
namespace Fli
open PySem PySem.Spec PyProof.Rows L2
variable [HW]

section
variable {X : Cx} {C : Addr} {f : Str} {B newId initId : String} {bmB : List Value} {o e : Expr} {to te : TE} {p' pos : Pos}
/-- self.f = e, the first one of an exception -/
theorem ps_first (T : ExT X.prog X.K C f B newId initId bmB) (ho : PE X o to) (he : PE X e te) (hs : swapsWith e (some (.Attribute o f p')) pos.line X.env = pure false := by rfl) :
    PS X (.Assign [.Attribute o f p'] e pos) (fun D σ H => te σ H fun y H1 => to σ H1 fun x H2 => ∃ a : Addr, x = .ref a ∧ H2 a = some (exo a C none) ∧ ∀ dx, H2 dx = none → dx ≠ a → D.nx σ (upd (upd H2 dx (exd dx [(f, y)])) a (exo a C (some dx)))) := by
  refine ⟨fun pins s σ H D I h => plainObj_wpAny_Assign_Attribute (thn (he.run pins s σ H _ I h) fun v s1 ⟨y, H1, I1, r1, q1⟩ => thn (ho.run pins s1 σ H1 _ I1 q1) fun u s2 ⟨x, H2, I2, r2, a, ex, ea, q⟩ => ?_) hs⟩
  subst ex
  obtain rfl : u = Value.ref a := r2
  exact first_field T I2 ea r1 fun dx s' n ne J => ⟨σ, _, J, q dx n ne⟩
end
section
variable {P : Program} {w : World} {K : PySem.W.Frag} {mg : Str → Option Value} {base : Heap} {C : Addr} {f : Str} {B newId initId : String} {bmB : List Value} {fI cda cc : Addr} {q tx : Str} {q0 q1 p0 p1 p2 p3 p4 p5 p6 p7 p8 p9 : Pos} {j : Nat} {oc kV doc pm ct ccl cl : Value} {od an cdd cld : Option Addr} {osl ccs csl : Array (Option Value)} {vs : Array Value} {file : Str} {tf : Tok}
theorem init_run (N : FdN f) (T : ExT P K C f B newId initId bmB)
    (lk : K.lookup fI = some ⟨oc, od, .func (PySem.W.fnX "__init__" q (arI f q0 q1) (bdI f tx j p0 p1 p2 p3 p4 p5 p6 p7 p8 p9) (scI f) [("__class__", cc)] .none kV doc pm an (.ref cda) ct), osl⟩)
    (hcd : PySem.W.codeIn K (.ref cda) q = true) (hk : K.lookup cda = some ⟨ccl, cdd, .fields vs, ccs⟩) (hv : vs[2]? = some (.str file tf)) (hf : ((P.main.file : Str) == file) = true) (hl0 : (p2.endLine == p4.line) = true) (hcc : K.lookup cc = some ⟨cl, cld, .cell (some (.ref C)), csl⟩)
    {k : Nat} {A : Around} {outer : List Env} {s : Shared} {H : Hp} {a : Addr} {y : V} {u : Value} {Q : VK} (hr : Room k A) (e0 : Env0 P w K mg base A outer s H) (ea : H a = some (exo a C none)) (ry : RelV y u)
    (hq : ∀ d, H d = none → d ≠ a → Q .non (upd (upd H d (exd d [(f, y)])) a (exo a C (some d)))) :
    codeAny (model P w) A (.call (.ref fI) ⟨[.ref a, u], []⟩) (CR CX0 outer P w H s Q E0) s := by
  have inK : K.In s.heap := e0.mod.kin.keeps fun b o z => (e0.bs b o z).1
  have free : s.heap.NoLimit := e0.mod.nolimit.keeps fun b o z => (e0.bs b o z).1
  have nCell : H cc = none := (e0.bs cc _ (e0.mod.kin cc _ hcc)).2
  refine PySem.ks_codeAny_call_defAt (fd := PySem.W.fnX "__init__" q (arI f q0 q1) (bdI f tx j p0 p1 p2 p3 p4 p5 p6 p7 p8 p9) (scI f) [("__class__", cc)] .none kV doc pm an (.ref cda) ct) (body := bdI f tx j p0 p1 p2 p3 p4 p5 p6 p7 p8 p9) (binds := [("self", .ref a), (f, u)])
    hr.depth (inK _ _ lk) rfl free (PySem.W.codeRec_of inK hcd) rfl (BindsTo.of_eq (N.bn ..)) N.S.nocell (fun z hz => ?_) (fun h1 hns hk1 => ?_)
  · rcases List.mem_cons.mp hz with rfl | hz
    · exact N.se
    · rw [List.mem_singleton.mp hz]; exact N.fl
  let F : NdefX.NF := ⟨"__init__", q, arI f q0 q1, bdI f tx j p0 p1 p2 p3 p4 p5 p6 p7 p8 p9, scI f, [("__class__", cc)], cda⟩
  have lo : ∀ (z : Str) (c : Addr), F.cl.lookup z = some c → z = Str.ofString "__class__" ∧ c = cc := fun z c e => by
    have e : (match z == Str.ofString "__class__" with | true => some cc | false => none) = some c := e
    split at e
    · rename_i h
      cases e
      exact ⟨eq_of_beq h, rfl⟩
    · cases e
  have isC : s.heap.IsCell cc (some (.ref C)) := ⟨_, inK cc _ hcc, rfl⟩
  have cells : NdefX.CellsAt F.cl ["__class__"] [none] s.heap H := by
    refine ⟨rfl, fun z c e => ?_, fun z1 z2 c e1 e2 => ?_, fun i z e => ?_⟩
    · obtain ⟨_, rfl⟩ := lo z c e
      exact ⟨nCell, _, isC⟩
    · rw [(lo _ _ e1).1, (lo _ _ e2).1]
    · cases i with
      | zero =>
        cases e
        exact ⟨cc, rfl, fun v h => nomatch h⟩
      | succ i => cases e
  have I : Inv (NdefX.ncx CX0 P w K mg base ["self", f, "__class__"] F fI A outer s H E0) [] (NdefX.startF ["self", f, "__class__"] [.ref a, y] [none]) H { s with heap := h1, toks := s.toks + 2 } :=
    NdefX.inv_startN (ps := ["self", f]) (us := [.ref a, u]) N.S hr.hd e0 rfl (.cons rfl (.cons ry .nil)) cells hns hk1
  have J := I
  have inK1 : K.In h1 := fun b o z => hk1 b o (inK b o z)
  obtain ⟨t1, ho⟩ := exo_at e0.hok ea
  have ho1 := hk1 _ _ ho
  obtain ⟨nm, Nd, qn, bs, bm, hdct, sn, sub, ab, col, dd, k0, k1, k2, k3, k5, hC, hT⟩ := PySem.W.excInit_of inK1 T.ini
  obtain ⟨m, hn, hl⟩ := I.loc
  have self : m (Str.ofString "self") = some (.ref a) := by
    obtain ⟨z, rz, lk⟩ := hl 0 "self" (.ref a) rfl rfl (.inl N.se)
    rcases lk with ⟨_, e⟩ | ⟨h, _⟩
    · rw [e]
      exact congrArg some rz
    · have h0 : (scI f).names.lookup ("self" : Str) = some .local := N.se
      rcases h with h | h <;> · have h : (scI f).names.lookup ("self" : Str) = _ := h; rw [h0] at h; cases h
  let env := NdefX.envF F fI s.heap.objs.size
  have he : eval (.Call (.Attribute (.Call (.Name "super" p0) [] [] p1) "__init__" p2) [.Constant (.str tx) j p3] [] p4) env = (do
      let ov ← attributeBase (.Call (.Name "super" p0) [] [] p1) "__init__" env (eval (.Call (.Name "super" p0) [] [] p1) env)
      standAt p2.atName
      let (g, first) ← holding [ov] (getMethod ov "__init__" (L2.plainOf (.Call (.Name "super" p0) [] [] p1) env))
      callWith p4 g first (backTo p4 (starEach [.Constant (.str tx) j p3] env)) []) := by
    show (attributeBase _ _ _ _ >>= fun ov => standAt p2.atName >>= fun _ => methodCall (.Call (.Name "super" p0) [] [] p1) "__init__" p2 p4 env ov 1 (backTo p4 (starEach [.Constant (.str tx) j p3] env)) []) = _
    congr 1
    funext ov
    congr 1
    funext _
    exact L2.mcall_line rfl hl0
  refine PySem.ks_wpAt_execs_cons (PySem.ks_wpAt_Expr_any (PySem.ks_wpAt_MethodCall (he := he) (PySem.ks_wpAt_super_base (cc := cda) (ar := { arg := "self", annotation := none, pos := q0 }) N.su N.cl (by decide +kernel) rfl (hk1 _ _ (inK _ _ lk)) rfl rfl rfl (hk1 _ _ (inK _ _ hk)) rfl hv hf T.top ?_)))
  have isA : PySem.W.InstAt h1 a _ C none := ⟨ho1, rfl, rfl, trivial⟩
  obtain ⟨mb, hb, hbb⟩ := I.mod.blt
  refine PySem.W.ks_loadName_global rfl N.su (Calls.loadGlobal_builtin (env := env) (mg := mg) (I.mod.glob.keeps I.bk) (PySem.W.mg_none_of inK1 (I.mod.glob.keeps I.bk) T.sN) (hb.keeps I.bk) ((hbb _ (by decide)).trans (by decide +kernel : bootBuiltins (Str.ofString "super") = some (.type "super"))) ⟨rfl, ?_⟩)
  refine wpAny_loadName_free rfl N.cl rfl ⟨_, inK1 _ _ hcc, rfl⟩ (wpAny_loadName_local rfl N.se hn self ?_)
  refine PySem.ks_wpAny_isType_cls hC rfl ⟨rfl, PySem.ks_wpAny_call_super hC rfl ho1 rfl (fun _ z => nomatch z) (PySem.W.looks_mroIn inK1 T.sC) fun h2 e2 hk2 => ?_⟩
  have inK2 : K.In h2 := fun b o z => hk2 b o (inK1 b o z)
  have I2 : Inv _ [] _ H { s with heap := h2, toks := s.toks + 2 } := I.kept (t' := s.toks + 2) hk2
  have isA2 : PySem.W.InstAt h2 a _ C none := ⟨hk2 _ _ ho1, rfl, rfl, trivial⟩
  have sup := T.sup
  cases hc : PySem.W.clsIn K C with
  | none =>
    unfold PySem.W.ks_superIn at sup
    rw [hc] at sup
    cases sup
  | some cdC =>
    unfold PySem.W.ks_superIn at sup
    rw [hc] at sup
    refine PySem.W.kxs_getMethod T.eb.KF e2 (PySem.W.looks_opaque inK2 T.op) (l₀ := cdC.mro) (fun _ _ _ _ kk qq => wpAny_bind ((PySem.W.looks_clsIn inK2 hc) _ _ _ _ kk (wpAny_pure qq))) rfl inK2 sup (isA2.type.andThen (PySem.W.looks_subIn inK2 T.sB)) (PySem.W.ks_ne inK2 isA2 hc) (by decide +kernel) ?_
    have hk3 : ∀ b o, h2.get? b = some o → (h2.push (PySem.W.kxs_mw initId a)).get? b = some o := fun b o z => Heap.get?_push_of_some _ z
    have hm3 : (h2.push (PySem.W.kxs_mw initId a)).get? h2.objs.size = some (PySem.W.kxs_mw initId a) := Heap.get?_push_at rfl rfl
    refine PySem.W.kxs_callWith (i := initId) (x := a) rfl (Calls.evalArgs_plain (Calls.spliced_cons (Calls.Constant_str (k := j) (pos := p3) (Calls.spliced_nil ⟨hm3, ?_⟩))))
    refine bound_init T ((I2.kept (t' := s.toks + 3) hk3).tok _) ea hm3 (by show 1 ≤ sizeLine; rw [sizeLine_eq]; omega) fun s' J => ?_
    refine wpAt_of_wpAny (wpAny_mono ((pss_one (ps_first T (pe_var (i := 0) rfl (.inl N.se)) (pe_var (i := 1) rfl (.inl N.fl) N.db N.cd))).run [] s' _ H { nx := fun _ H' => Q .non H', rt := fun _ _ => False, bk := fun _ _ => False, ct := fun _ _ => False } J ⟨y, rfl, .ref a, rfl, a, rfl, ea, hq⟩) (fun fl s2 hs => ?_) fun _ _ z => z)
    cases fl with
    | next =>
      obtain ⟨σ', H', J', q⟩ := hs
      exact ⟨.non, H', J'.os, J'.bare, J'.base, J'.hok, rfl, q⟩
    | ret v =>
      obtain ⟨_, _, _, _, _, q⟩ := hs
      exact q.elim
    | brk =>
      obtain ⟨_, _, _, q⟩ := hs
      exact q.elim
    | cont =>
      obtain ⟨_, _, _, q⟩ := hs
      exact q.elim
end
end Fli
set_option Elab.async false
set_option linter.all false
set_option maxRecDepth 100000
set_option maxHeartbeats 4000000
namespace Fli
open PySem PySem.Spec PyProof.Rows L2
variable [HW]

section
variable {X : Cx} {C : Addr} {f x : Str} {B newId initId : String} {bmB : List Value} {e : Expr} {ta : TA} {p pos : Pos} {k : Nat}
/-- a class without an __init__ of its own -/
structure ExZ (K : PySem.W.Frag) (C : Addr) (B newId initId : String) (bmB : List Value) : Prop where
  F : ExcBaseFacts B newId initId bmB
  kC : PySem.W.keepIn K (.ref C) = true
  ini : PySem.W.excInitIn K C bmB newId = true
  exC : PySem.W.subIn K (.ref C) (.type "BaseException") = some true
  tyC : PySem.W.typeIn K (.ref C) = some (.type "type")
  it : PySem.W.findIn K (.ref C) "__init__" = some (some (.builtin initId))
end
end Fli
set_option Elab.async false
set_option linter.all false
set_option maxRecDepth 100000
set_option maxHeartbeats 4000000
namespace Fli
open PySem PySem.Spec PyProof.Rows L2
variable [HW]

/-! what is raised: a mirror of its own, beside the one of what is returned -/
structure Exn where
  c : Str
  fs : List (Str × D)
abbrev R := S → Option (Exn × S)
section
variable (K : PySem.W.Frag) (mg : Str → Option Value)
/-- the exception x, its class and its dict -/
def ExR (W : Hp) (x : Exn) (cls : Value) (d : Option Addr) : Prop := ∃ C, mg x.c = some (.ref C) ∧ cls = .ref C ∧ ((x.fs = [] ∧ d = none) ∨ x.fs ≠ [] ∧ ∃ dd gs, d = some dd ∧ W dd = some (.xd gs) ∧ DFs K mg W gs x.fs)
/-- a statement raises -/
def tX (pr : List Nat) (r : R) (Wi : WX) (σ : L2.St) (H : Hp) : Prop := ∃ sd W x s', St K mg sd σ H W ∧ r sd = some (x, s') ∧
  ∀ cls d σ' H' W', St K mg s' σ' H' W' → Kp sd σ H W s' σ' H' W' → Pr pr σ σ' → ExR K mg W' x cls d → Wi cls d σ' H'
/-- an expression raises -/
def tXe (r : R) (Wi : WX) (σ : L2.St) (H : Hp) : Prop := ∃ sd W x s', St K mg sd σ H W ∧ r sd = some (x, s') ∧
  ∀ cls d H' W', St K mg s' σ H' W' → Kp sd σ H W s' σ H' W' → ExR K mg W' x cls d → Wi cls d σ H'
end
theorem tX.e {K : PySem.W.Frag} {mg : Str → Option Value} {pr : List Nat} {r : R} {Wi : WX} {σ : L2.St} {H : Hp} (h : tX K mg pr r Wi σ H) : tXe K mg r Wi σ H := by
  obtain ⟨sd, W, x, s', st, e, q⟩ := h
  exact ⟨sd, W, x, s', st, e, fun cls d H' W' st' k xr => q cls d σ H' W' st' k Pr.refl xr⟩
abbrev RX (X : Cx) (e : Expr) (r : R) : Prop := ∀ Wi, Takes X Wi → PE X e fun σ H _ => tXe X.K X.mg r Wi σ H
theorem PS.ofNox {X : Cx} {st : Stmt} {t : TS} (h : PS X.nox st t) : PS X st t := ⟨fun pins s σ H D I q => wpAny_mono (h.run pins s σ H D (I.wish _) q) (fun fl s1 z => z.unwish) fun _ _ z => z.elim⟩
theorem pe_never {X : Cx} {e : Expr} : PE X e fun _ _ _ => False := ⟨fun _ _ _ _ _ _ q => q.elim⟩
theorem pss_no {X : Cx} {st : List Stmt} : PSs X st fun _ _ _ => False := ⟨fun _ _ _ _ _ _ q => q.elim⟩
def noR : R := fun _ => none
section
variable {X : Cx} {pr : List Nat} {e a b tg : Expr} {s : Stmt} {ss tt uu : List Stmt} {pos p p2 : Pos} {r r1 r2 : R} {m : MS} {me : M D} {mc : M Bool}
/-- one of both branches raises -/
def ifR (c : M Bool) (a b : R) : R := fun s => (c s).bind fun q => if q.1 = true then a q.2 else b q.2
/-- the first one raises, or the others behind it -/
def seqR (r1 : R) (m : MS) (r2 : R) : R := fun s => match r1 s with
  | some x => some x
  | none => (m s).bind fun o => match o with
    | .nx s1 => r2 s1
    | _ => none
/-- raise C(e) -/
def raiseR (c f : Str) (m : M D) : R := fun s => (m s).bind fun q => some (⟨c, [(f, q.1)]⟩, q.2)
end
/-! a loop whose body raises -/
def rloop (asg : D → S → Option S) (m : MS) (rb : R) : List D → R
  | [], _ => none
  | d :: ds, s => (asg d s).bind fun s1 => match rb s1 with
    | some x => some x
    | none => (m s1).bind fun o => match o with
      | .nx s2 => rloop asg m rb ds s2
      | .ct s2 => rloop asg m rb ds s2
      | _ => none
def forER (mi : M D) (fs : List D → S → Option S) (m : MS) (rb : R) : R := fun s => (mi s).bind fun q => (tupLs q.1).bind fun ds => rloop (tupF 2 fs) m rb (enumD ds) q.2
section
variable {K : PySem.W.Frag} {mg : Str → Option Value} {pr : List Nat} {D : Ends} {sd : S} {σ : L2.St} {H W : Hp} {x : Exn} {se : S} {gs : TGs} {fs : List Fli.D → S → Option S} {m : MS} {rb : R} {Wi : WX}
def RTurn (K : PySem.W.Frag) (mg : Str → Option Value) (pr : List Nat) (sd : S) (σ : L2.St) (H W : Hp) (asg : Fli.D → S → Option S) (m : MS) (rb : R) (items : List Fli.D) (x : Exn) (se : S) (i : Nat) (σ' : L2.St) (H' : Hp) : Prop :=
  ∃ sd' W', St K mg sd' σ' H' W' ∧ Kp sd σ H W sd' σ' H' W' ∧ Pr pr σ σ' ∧ rloop asg m rb (items.drop i) sd' = some (x, se)
theorem RTurn.oneE {items : List Fli.D} {i : Nat} {d : Fli.D} {y : V} {σ' : L2.St} {H' : Hp} {T : Addr} (hg : TGs' K mg pr gs fs) (q : ∀ cls d σ' H' W', St K mg se σ' H' W' → Kp sd σ H W se σ' H' W' → Pr pr σ σ' → ExR K mg W' x cls d → Wi cls d σ' H')
    (hd : items[i]? = some (.tup [.int (i : Int), d])) (t : RTurn K mg pr sd σ H W (tupF 2 fs) m rb items x se i σ' H') (hx : ∀ W', Le W W' → DR K mg W' y d) (hT : H' T = none) :
    gTup K 2 gs (.ref T) σ' (upd H' T (.tup [.int (i : Int), y])) fun σ2 H2 => (tM K mg pr m { nx := RTurn K mg pr sd σ H W (tupF 2 fs) m rb items x se (i + 1), rt := D.rt, bk := D.nx, ct := RTurn K mg pr sd σ H W (tupF 2 fs) m rb items x se (i + 1) } σ2 H2) ∨ tX K mg pr rb Wi σ2 H2 := by
  obtain ⟨sd', W', st, k, p, em⟩ := t
  have hl : i < items.length := (List.getElem?_eq_some_iff.mp hd).1
  have hd' : items[i] = .tup [.int (i : Int), d] := (List.getElem?_eq_some_iff.mp hd).2
  rw [List.drop_eq_getElem_cons hl, hd'] at em
  simp only [rloop, Option.bind_eq_some_iff] at em
  obtain ⟨s1, e1, em⟩ := em
  obtain ⟨g1, g2⟩ := st.newO hT (.tup [.int (i : Int), y])
  have e1 : fs [.int (i : Int), d] sd' = some s1 := e1
  refine ⟨T, _, rfl, .inl (.inl upd_same), rfl, hg _ _ sd' s1 σ' _ W' g1 (.cons (.int _) (.cons (hx W' k.le) .nil)) e1 _ fun σ1 H1 W1 st1 k1 p1 => ?_⟩
  have k' := (k.trans g2).trans k1
  have p' := p.trans p1
  split at em
  · rename_i z e3
    cases em
    exact .inr ⟨s1, W1, x, se, st1, e3, fun cls d σ2 H2 W2 st2 k2 p2 xr => q cls d σ2 H2 W2 st2 (k'.trans k2) (p'.trans p2) xr⟩
  · simp only [Option.bind_eq_some_iff] at em
    obtain ⟨o, e2, em⟩ := em
    refine .inl ⟨s1, W1, o, st1, e2, ?_⟩
    cases o with
    | nx s2 => exact fun σ2 H2 W2 st2 k2 p2 => ⟨s2, W2, st2, k'.trans k2, p'.trans p2, em⟩
    | ct s2 => exact fun σ2 H2 W2 st2 k2 p2 => ⟨s2, W2, st2, k'.trans k2, p'.trans p2, em⟩
    | _ => cases em
end
section
variable {X : Cx} {pr : List Nat} {e : Expr} {sts : List Stmt} {pos p tpos : Pos} {elts : List Expr} {kk : Nat} {gs : TGs} {fs : List D → S → Option S} {m : MS} {mi : M D} {rb : R}
end
end Fli
set_option Elab.async false
set_option linter.all false
set_option maxRecDepth 100000
set_option maxHeartbeats 4000000
namespace Fli
open PySem PySem.Spec PyProof.Rows L2
variable [HW]

/-! defs that raise -/
def spR (K : PySem.W.Frag) (mg : Str → Option Value) (N ps : List Str) (pr : List Nat) (r : R) : Sp := fun vs H _ E => vs.length = ps.length ∧ tX K mg pr r (fun cls d _ H' => E cls d H') (L2.start N vs) H
section
variable {P : Program} {w : World} {K : PySem.W.Frag} {mg : Str → Option Value} {base : Heap}
end
/-- the call lets it out -/
def rcall (n : Nat) (r : R) (ms : M (List D)) : R := fun s => (ms s).bind fun q => (r (startS n (q.1.map .d))).map fun z => (z.1, q.2)
section
variable {X : Cx} {k n j : Nat} {N ps : List Str} {r : R} {x : Str} {p pos : Pos} {e : Expr} {es : List Expr} {ms : M (List D)}
end
/-! try: .. except (A, B, C) as n: .. -/
theorem fly_keep {B g g' : Heap} {l : List Env} {e : Addr} {Z : Obj → Prop} (x : HandSPX.FlyingZ B l e Z g) (k : ∀ b o, g.get? b = some o → g'.get? b = some o) : HandSPX.FlyingZ B l e Z g' := by
  obtain ⟨x1, x2, x3, oe, vs, T, oT, ts, q1, q2, q3, q4, q5, q6, q7, q8, q9⟩ := x
  exact ⟨fun b o q => k _ _ (x1 b o q), x2, x3.of_keeps fun b o q _ => ⟨o, k _ _ q, rfl⟩, oe, vs, T, oT, ts, k _ _ q1, q2, q3, q4, q5, q6, k _ _ q7, q8, q9⟩
/-- all that the body raises is caught: slot i is the exception's -/
def wAs3 (K : PySem.W.Frag) (c1 c2 c3 : Value) (i : Nat) (ts : Addr → Value → Option Addr → TS) (D : Ends) : WX := fun cls d σ H =>
  PySem.W.exmAny K cls [c1, c2, c3] = some true ∧ ∀ a, H a = none → ts a cls d { nx := fun τ G => D.nx (τ.set i none) G, rt := D.rt, bk := fun τ G => D.bk (τ.set i none) G, ct := fun τ G => D.ct (τ.set i none) G } (σ.set i (some (.ref a))) H
section
variable {X : Cx} {x1 x2 x3 n : Str} {c1 c2 c3 : Value} {i kk : Nat} {body suite : List Stmt} {b₀ : Stmt} {p1 p2 p3 np pos pos' : Pos} {tb : WX → TS} {ts : Addr → Value → Option Addr → TS}
theorem ps_try3 (hs : X.stack = X.env :: X.outer) (hf : X.env.frame = some X.env.locals) (hN : X.N.Nodup) (hi : X.N[i]? = some n) (hln : X.env.kindOf n = some .local) (hc1 : Names X x1 c1) (hc2 : Names X x2 c2) (hc3 : Names X x3 c3)
    (hb : ∀ (W : WX) (pn : List (Addr × Obj)) (xe : Value → Shared → Prop), Takes (X.tr pn xe) W → PassesOwn (model X.prog X.w) X.A X.env xe → PSs (X.tr pn xe) body (tb W))
    (hsu : ∀ (a : Addr) (oe : Obj) (cls : Value) (d : Option Addr) (pn : List (Addr × Obj)), Zc cls d oe → (∃ vs, oe.data = .fields vs) → PSs (X.suite a ((a, oe) :: pn)) (b₀ :: suite) (ts a cls d)) :
    PS X (.Try body [.ExceptHandler (some (.Tuple [.Name x1 p1, .Name x2 p2, .Name x3 p3] kk np)) (some n) (b₀ :: suite) pos'] [] [] pos) (fun D σ H => tb (wAs3 X.K c1 c2 c3 i ts D) D σ H) := by
  constructor
  intro pins s σ H D I h
  have okX := I.ok
  refine wpAny_Try_except ?_
  have run := (hb (wAs3 X.K c1 c2 c3 i ts D) (X.pn ++ pins) (fun e t => wpAny (model X.prog X.w) X.A (noteFrame e X.env) (fun _ t1 => wpAny (model X.prog X.w) X.A (setFlight e none) (fun _ t2 =>
    wpAny (model X.prog X.w) X.A (handleBy e X.env [.ExceptHandler (some (.Tuple [.Name x1 p1, .Name x2 p2, .Name x3 p3] kk np)) (some n) (b₀ :: suite) pos']) (SP X pins D) X.xe t2) X.xe t1) X.xe t) (fun u t xx => ?_) PassesOwn.looking).run [] s σ H D (I.toTry _) h
  · refine wpAny_mono run (fun f t hsp => ?_) fun _ _ z => z
    cases f with
    | next => obtain ⟨τ, G, J, q⟩ := hsp; exact wpAny_execs_nil ⟨τ, G, J.ofTry okX, q⟩
    | brk => obtain ⟨τ, G, J, q⟩ := hsp; exact ⟨τ, G, J.ofTry okX, q⟩
    | cont => obtain ⟨τ, G, J, q⟩ := hsp; exact ⟨τ, G, J.ofTry okX, q⟩
    | ret u => obtain ⟨v, τ, G, J, r, q⟩ := hsp; exact ⟨v, τ, G, J.ofTry okX, r, q⟩
  · obtain ⟨a, B, t0, pins', τ, G, cls, d, rfl, J', nb, up, sky, na, os, ag, hex, hyes⟩ := xx
    have J : Inv X pins τ G t0 := J'.ofTry okX
    show wpAny (model X.prog X.w) X.A (noteFrame (.ref a) X.env) _ _ _
    refine Sky.land Zc.steady (by rw [okX.frames, hs]) hf (by rw [← hs]; exact sky) fun g3 fl3 up3 => ?_
    have J3 : Inv X pins τ G { t with heap := g3 } := J.landed nb fl3.1 (up.trans up3) os ag
    obtain ⟨o3, v3, z1, z2, z3⟩ := fl3.there
    have away : a ∉ frs (X.env :: X.outer) := fun hm => by
      obtain ⟨_, o', y1, y2⟩ := fl3.2.2.1.mem hm
      rw [z1] at y1; cases y1
      exact y2 _ z3
    have nL : a ≠ X.env.locals := fun z => away (List.mem_filterMap.mpr ⟨X.env, List.mem_cons_self, by rw [hf, z]⟩)
    have nF : a ∉ X.fs := fun hm => by
      obtain ⟨y, y1, y2⟩ := List.mem_filterMap.mp hm
      exact away (List.mem_filterMap.mpr ⟨y, List.mem_cons_of_mem _ y1, y2⟩)
    have S3 := J3.suite z1 z3 na nL nF
    refine wpAny_handleBy_cons (codeAny_handlers_test ?_) (by intro z; cases z)
    have here : ∀ {x : Str} {c : Value} {q : Pos} {Q : Value → Shared → Prop} {E : Value → Shared → Prop}, Names X x c → Q c { t with heap := g3 } → wpAny (model X.prog X.w) (X.A.mark (some (.ref a))) (eval (.Name x q) X.env) Q E { t with heap := g3 } := fun {x c q Q E} hc y => by
      obtain ⟨y1, y2, y3 | ⟨y3, y4, y5⟩⟩ := hc
      · exact ld_glob (X := X.suite a ((a, o3) :: (X.pn ++ pins))) S3 y1 y3 y y2
      · exact ld_blt (X := X.suite a ((a, o3) :: (X.pn ++ pins))) S3 y1 y3 y4 y y5 y2
    refine wpAny_Tuple_spliced (Calls.spliced_cons (here hc1 (Calls.spliced_cons (here hc2 (Calls.spliced_cons (here hc3 (Calls.spliced_nil ⟨by rw [sizeLine_eq]; show 3 ≤ 16777216; decide, ?_⟩)))))))
    have up4 : ∀ b o, g3.get? b = some o → (g3.push { cls := .type "tuple", data := .seq [c1, c2, c3].toArray }).get? b = some o := fun b o y => Heap.get?_push_of_some _ y
    have LT : PySem.W.Looks (model X.prog X.w) (g3.push { cls := .type "tuple", data := .seq [c1, c2, c3].toArray }) (typeOf (.ref a)) cls := fun A Q E t k q => wpAny_typeOf_ref (k _ _ (up4 _ _ z1)) (by rw [z2.1]; exact q)
    refine (PySem.W.exm_tup3 (M := model X.prog X.w) (J3.kIn.keeps up4) LT (Heap.get?_push_size g3 rfl) hex).here ?_
    have fl4 := fly_keep fl3 up4
    refine codeAny_handlers_suite_as ?_
    refine HandSPX.lands_againZ fl4 fun g5 fl5 up5 => ?_
    have J5 : Inv X pins τ G { t with heap := g5 } := J.landed nb fl5.1 (((up.trans up3).trans (Heap.UpToSlots.of_keeps up4)).trans up5) os ag
    obtain ⟨o5, v5, w1, w2, w3⟩ := fl5.there
    refine store_ok (X := X.suite a ((a, o5) :: (X.pn ++ pins))) (v := .ref a) (J5.suite w1 w3 na nL nF) hN hi (.inl hln) rfl (fun t5 S5 => ?_) (.inr hln)
    refine wpAny_mono ((hsu a o5 cls d (X.pn ++ pins) w2 ⟨_, w3⟩).run [] t5 _ G _ S5 (hyes a na)) (fun f t6 hsp => ?_) (fun _ _ z => z.elim)
    have fin : ∀ {τ6 : L2.St} {G6 : Hp} {Q : Shared → Prop}, Inv (X.suite a ((a, o5) :: (X.pn ++ pins))) [] τ6 G6 t6 → (∀ t7, Inv X pins (τ6.set i none) G6 t7 → Q t7) →
        wpAny (model X.prog X.w) X.A (do bindName X.env n .none; unbindBehindTheSuite X.env n pos') (fun _ t7 => Q t7) X.xe t6 := fun {τ6 G6 Q} S6 y => gone_ok (S6.unsuite okX) hN hi hln y
    cases f with
    | next => obtain ⟨τ6, G6, S6, q6⟩ := hsp; exact fin S6 fun t7 J7 => ⟨_, _, J7, q6⟩
    | brk => obtain ⟨τ6, G6, S6, q6⟩ := hsp; exact fin S6 fun t7 J7 => ⟨_, _, J7, q6⟩
    | cont => obtain ⟨τ6, G6, S6, q6⟩ := hsp; exact fin S6 fun t7 J7 => ⟨_, _, J7, q6⟩
    | ret u => obtain ⟨v6, τ6, G6, S6, r6, q6⟩ := hsp; exact fin S6 fun t7 J7 => ⟨_, _, _, J7, r6, q6⟩
end
end Fli
set_option Elab.async false
set_option linter.all false
set_option maxRecDepth 100000
set_option maxHeartbeats 4000000
namespace Fli
open PySem PySem.Spec PyProof.Rows L2
variable [HW]

/-! defs that are called with the exception which a suite holds -/
/-- p's object is the exception x, without a dict -/
def GoodP (K : PySem.W.Frag) (mg : Str → Option Value) (x : Str) (p : Addr × Obj) : Prop := ∃ C, mg x = some (.ref C) ∧ ExcC K C ∧ Zc (.ref C) none p.2 ∧ ∃ us, p.2.data = .fields us
structure FnP (P : Program) (w : World) (K : PySem.W.Frag) (mg : Str → Option Value) (base : Heap) (k : Nat) (f : Addr) (fd : FuncData) (ps : List Str) (x : Str) (sp : Addr → Sp) : Prop where
  len : ∀ {a vs H Q E}, sp a vs H Q E → vs.length = ps.length
  run : ∀ {A : Around} {outer : List Env} {s : Shared} {H : Hp} {args : Args} {us : List Value} {vs : List V} {Q : VK} {E : XK} {p : Addr × Obj}, L2H.RoomH k A → GoodP K mg x p → L2H.PinOk outer H s p →
    Env0 P w K mg base A outer s H → BindsTo s fd args (ps.zip us) → Vals vs us → sp p.1 vs H Q E → codeAny (model P w) A (.call (.ref f) args) (CR CX0 outer P w H s Q E) s
section
variable {P : Program} {w : World} {K : PySem.W.Frag} {mg : Str → Option Value} {base : Heap}
end
section
variable {X : Cx} {k i : Nat} {f a : Addr} {fd : FuncData} {ps N : List Str} {x c : Str} {p pos p2 : Pos} {e : Expr} {sp : Addr → Sp} {ta : TE} {oe : Obj} {pn : List (Addr × Obj)}
/-- isinstance of the exception that is held -/
theorem call_isP (hin : (a, oe) ∈ X.pn) (good : GoodP X.K X.mg c (a, oe)) : CallR X (.builtin "isinstance") (fun xs H Q => ∃ (C : Addr) (y : V) (yv : Value) (b : Bool), X.mg c = some (.ref C) ∧ xs = [.ref a, y] ∧ (∀ u, RelV y u → u = yv) ∧ PySem.W.kitOne X.K (.ref C) yv = some b ∧ Q (.bl b) H) := by
  intro pins s σ H xs us Q I r h
  obtain ⟨C, y, yv, b, hC, rfl, hy, eb, q⟩ := h
  obtain ⟨C', hC', T, hz, us', hus⟩ := good
  rw [hC] at hC'
  cases hC'
  cases r with
  | cons r1 r =>
    cases r with
    | cons r2 r =>
      cases r
      cases r1
      cases hy _ r2
      have at_ := (I.pin (a, oe) (List.mem_append_left _ hin)).1
      have J : PySem.W.InstAt s.heap a oe C none := by
        obtain ⟨ocl, odi, oda, osl⟩ := oe
        obtain ⟨w1, w2⟩ := hz
        dsimp only at w1 w2 hus
        subst w1 w2 hus
        exact ⟨at_, rfl, rfl, trivial⟩
      exact PySem.W.kia_one (PySem.W.handS_kitx_exc T.hg T.hk T.hs T.hd T.ha T.hn T.ht T.hm) I.kIn J eb (fun z => nomatch z) fun tk => ⟨.bl b, H, I.kept (t' := tk) fun _ _ z => z, rfl, q⟩
end
section
variable {X : Cx} {a C : Addr} {c tn : Str} {p pos p2 : Pos} {e : Expr} {oe : Obj} {m : M D} {y : V} {yv : Value} {b : Bool}
end
end Fli
set_option Elab.async false
set_option linter.all false
set_option maxRecDepth 100000
set_option maxHeartbeats 4000000
namespace Fli
open PySem PySem.Spec PyProof.Rows L2
variable [HW]

/-! a lambda is made: what it does to the table is told exactly -/
/-- nothing new, or one entry more in the table at P, its code object new -/
def Grown (H H1 : Hp) (P c : Addr) (q : Str) : Prop := H1 = H ∨ ∃ ps more, H P = some (.tbl ps) ∧ H c = none ∧ H1 = upd (upd H P (.tbl (ps ++ more))) c (LamX.CodeO c q)
section
variable {X : Cx} {pins : List (Addr × Obj)} {σ : L2.St} {H : Hp} {s : Shared}
theorem lam_mk {T : List (Addr × Str)} {c P : Addr} {params : Arguments} {body : Expr} {scope : Scope} {pos : Pos} {E Q : Value → Shared → Prop} {nm : Str} (hnm : nm = X.env.qual ++ "<lambda>") (I : Inv X pins σ H s) (tb : LamX.TabB X.base X.mg c P) (hcode : X.env.code = .ref c)
    (hin : (P, nm) ∈ T) (one : ∀ p ∈ T, p.1 = P → p.2 = nm) (tabs : LamX.Tabs T H) (hdef : defaultsOf params X.env = ([], [])) (hfree : ∀ y ∈ scope.names, y.2 = .free → ∃ c, X.env.cells.lookup y.1 = some c)
    (h : ∀ (f c' : Addr) (pm ctv : Value) (G : Hp) (t : Shared), Inv X pins σ G t → Grown H G P c' nm → LamX.Tabs T G →
      t.heap.get? f = some (PySem.W.kla_obj "<lambda>" nm params body scope (cloFrom X.env.cells scope.names []) pm c' ctv) → G f = none → f ∉ frs X.stack → G c' = some (LamX.CodeO c' nm) → Q (.ref f) t) :
    wpAny (model X.prog X.w) X.A (eval (.Lambda params body scope pos) X.env) Q E s := by
  subst hnm
  obtain ⟨ps, atP, trip, known⟩ := tabs _ hin
  have realP : s.heap.get? P = some { cls := .none, data := .fields ps } := I.hok P _ atP
  have away : ∀ f, s.heap.objs.size ≤ f → f ∉ frs X.stack := fun f hf z => by
    rcases List.mem_cons.mp (I.stkSub _ z) with e | e
    · have := I.lt
      rw [← e] at this
      exact Nat.lt_irrefl _ (Nat.lt_of_lt_of_le this hf)
    · exact I.nofs hf e
  refine PySem.W.kla_eval hdef ?_
  cases hit : codeAmong pos ps.toList with
  | some cv =>
    obtain ⟨c', rfl, hco⟩ := known pos _ hit
    refine PySem.W.kla_makeFunctionHit (mg := X.mg) (c := c) (P := P) (ps := ps) (L2.closure_ok hfree) I.ok.glob (I.mod.glob.keeps I.bk) hcode (tb.code.keeps I.bk) realP trip hit (tb.bm.keeps I.bk) fun ctv g tk kx big => ?_
    exact h g.objs.size c' _ ctv H _ (I.kept fun b o e => Heap.get?_push_of_some _ (kx b o e)) (.inl rfl) tabs (Heap.get?_push_size _ rfl) (I.hok.fresh big) (away _ big) hco
  | none =>
    refine PySem.W.kla_makeFunction (mg := X.mg) (c := c) (P := P) (ps := ps) (L2.closure_ok hfree) I.ok.glob (I.mod.glob.keeps I.bk) hcode (tb.code.keeps I.bk) realP trip hit tb.gP (tb.bm.keeps I.bk) fun c' ctv g tk kx ge lt rec_ new => ?_
    obtain ⟨c2, oc, vs, t, e2, w1, w2, w3⟩ := rec_
    cases e2
    have big : s.heap.objs.size ≤ g.objs.size := Nat.le_trans ge (Nat.le_of_lt lt)
    have nC : H c' = none := I.hok.fresh ge
    have I1 := LamX.inv_table (t' := tk) (more := #[rawInt pos.line, rawInt pos.col, .ref c']) (h' := g.push (PySem.W.kla_obj "<lambda>" (X.env.qual ++ "<lambda>") params body scope (cloFrom X.env.cells scope.names []) ((X.mg "__name__").getD .none) c' ctv)) I atP
      (fun b o hb e => Heap.get?_push_of_some _ (kx b o hb e)) (Heap.get?_push_of_some _ new) ge ⟨oc, vs, t, Heap.get?_push_of_some _ w1, w2, w3⟩
    have grow : ∀ b o, H b = some o → (∀ z, o ≠ .tbl z) → upd (upd H P (.tbl (ps ++ #[rawInt pos.line, rawInt pos.col, .ref c']))) c' (LamX.CodeO c' (X.env.qual ++ "<lambda>")) b = some o := fun b o e n => by
      rw [upd_ne (ne_of_none e nC), upd_ne fun z => n ps (Option.some.inj (e.symm.trans (by rw [z]; exact atP)))]
      exact e
    refine h g.objs.size c' _ ctv _ _ I1 (.inr ⟨ps, _, atP, nC, rfl⟩) (fun p hp => ?_) (Heap.get?_push_size _ rfl) ?_ (away _ big) upd_same
    · by_cases hb : p.1 = P
      · rw [one p hp hb, hb]
        have eL : (ps ++ #[rawInt pos.line, rawInt pos.col, .ref c']).toList = ps.toList ++ [rawInt pos.line, rawInt pos.col, .ref c'] := by simp
        refine ⟨_, by rw [upd_ne (ne_of_none atP nC), upd_same], by rw [eL]; exact PySem.TriplesOk_snoc _ _ _ _ trip, fun pos' cv hcv => ?_⟩
        rw [eL] at hcv
        rcases LamX.among_app _ trip hcv with z | z
        · obtain ⟨c0, e1, e2⟩ := known pos' cv z
          exact ⟨c0, e1, grow _ _ e2 LamX.codeO_ne⟩
        · exact ⟨c', z, upd_same⟩
      · obtain ⟨qs, a1, a2, a3⟩ := tabs p hp
        refine ⟨qs, by rw [upd_ne (ne_of_none a1 nC), upd_ne hb]; exact a1, a2, fun pos' cv hcv => ?_⟩
        obtain ⟨c0, e1, e2⟩ := a3 pos' cv hcv
        exact ⟨c0, e1, grow _ _ e2 LamX.codeO_ne⟩
    · rw [upd_ne (Nat.ne_of_gt lt), upd_ne (Nat.ne_of_gt (Nat.lt_of_lt_of_le (Heap.lt_size realP) big))]
      exact I.hok.fresh big
/-- g(lambda: body) -/
def tLamG (P : Addr) (nm : Str) (T : List (Addr × Str)) (TT : (XK → Hp → VK → Prop) → Hp → VK → Prop) (t : XK → TE) : TE := fun σ H Q => LamX.Tabs T H ∧ ∀ G c', Grown H G P c' nm → LamX.Tabs T G → TT (fun E H' Q' => t E σ H' Q') G Q
theorem pe_lamG {T : List (Addr × Str)} {TT : (XK → Hp → VK → Prop) → Hp → VK → Prop} {x a nm : Str} {g c P : Addr} {k : Nat} {pg : Arguments} {bg : List Stmt} {sg : Scope} {dV kV doc pm cdv ct oc : Value} {an od : Option Addr} {osl : Array (Option Value)} {Ng : List Str}
    {params : Arguments} {body : Expr} {scope : Scope} {t : XK → TE} {p lpos pos : Pos} (hnm : nm = X.env.qual ++ "<lambda>") (hg : Gl X x) (hm : X.mg x = some (.ref g)) (hk : PySem.W.keepIn X.K (.ref g) = true)
    (lk : X.K.lookup g = some ⟨oc, od, .func (PySem.W.fnOf x x pg bg sg dV kV doc pm an cdv ct), osl⟩) (hcg : PySem.W.codeIn X.K cdv x = true) (hb : L2.Binds X.K (PySem.W.fnOf x x pg bg sg dV kV doc pm an cdv ct) [a] []) (Sg : FnScope Ng [a] sg) (hNg : Ng[0]? = some a) (hva : Vis sg a)
    (hG : LamX.GivesTo X Ng x sg g cdv bg a nm TT)
    (tb : LamX.TabB X.base X.mg c P) (hcode : X.env.code = .ref c) (hin : (P, nm) ∈ T) (one : ∀ p ∈ T, p.1 = P → p.2 = nm) (hr : Room (k + 2) X.A) (L : LamX.LamS X.env.scope scope) (hdef : defaultsOf params X.env = ([], []))
    (hbind : ∀ (q : Str) (cl : List (Str × Addr)) (pm cv ctv : Value), bindArgs (PySem.W.kla_fn "<lambda>" q params body scope cl pm cv ctv) ⟨[], []⟩ = pure [])
    (hbody : ∀ (A : Around) (outer : List Env) (s : Shared) (H : Hp) (E : XK) (f c' : Addr), Room k (A.deeper (LamX.lamEnv X scope s.heap.objs.size f c')) → PE (LamX.lamCx X A outer s H E scope f c') body (t E))
    (hdb : (x == ("__debug__" : Str)) = false := by decide) (hd : (a == ("__debug__" : Str)) = false := by decide) (hcd : (a == ("__classdict__" : Str)) = false := by decide) :
    PE X (.Call (.Name x p) [.Lambda params body scope lpos] [] pos) (tLamG P nm T TT t) := by
  constructor
  intro pins s σ H Q I ⟨tabs, q⟩
  refine wpAny_Call_Name_kw (ld_glob I hg hm ?_ hdb)
  refine PySem.W.callWith_K (h₀ := X.base) I.ok.mod.kin hk ?_ (by rfl) (by rfl)
  show wpAny _ _ (spliced ((false, eval (.Lambda params body scope lpos) X.env) :: backTo pos (starEach [] X.env))) _ _ s
  refine Calls.spliced_cons (lam_mk hnm I tb hcode hin one tabs hdef (L.has I.ok) fun f c' pm' ctv G s1 I1 gr T1 q1 q2 q3 q4 => Calls.spliced_nil ⟨I1.kIn, ?_⟩)
  have run : codeAny (model X.prog X.w) X.A (.call (.ref g) ⟨[.ref f], []⟩) (CR C8.CX0 X.stack X.prog X.w G s1 Q C8.E0) s1 := by
    refine LamX.run_ofS (N := Ng) (ps := [a]) (us := [.ref f]) (vs := [.ref f]) lk hcg Sg hr I1.env0 (hb s1 [.ref f] I1.kIn rfl) (.cons rfl .nil) rfl fun room => ?_
    subst hnm
    obtain ⟨u, hu, ends⟩ := hG f c' s1 G Q (fun E H' Q' => t E σ H' Q') (fun W pn xe E p1 p2 tk le => LamX.pe_act (i := 0) I1 L q1 q2 q3 (hbind _ _ _ _ _) tk le room (fun A outer s H hr2 => hbody A outer s H E f c' hr2) hNg hva hd hcd) q4 (q G c' gr T1)
    exact ⟨u, hu.nox, ends⟩
  refine wpAny_call (codeAny_mono run fun y s2 hq => ?_)
  cases y with
  | error e => exact (show False from hq).elim
  | ok fl =>
    cases fl with
    | ret u => exact I1.after hq
    | next => exact False.elim hq
    | brk => exact False.elim hq
    | cont => exact False.elim hq
end
end Fli
set_option Elab.async false
set_option linter.all false
set_option maxRecDepth 100000
set_option maxHeartbeats 4000000
namespace Fli
open PySem PySem.Spec PyProof.Rows L2
variable [HW]

section
variable {K : PySem.W.Frag} {mg : Str → Option Value} {sd : S} {σ : L2.St} {H G W : Hp} {P c : Addr} {q : Str}
theorem Grown.keep (g : Grown H G P c q) {b : Addr} {o : HO} (h : H b = some o) (n : nt o = true) : G b = some o := by
  rcases g with rfl | ⟨ps, more, h1, h2, rfl⟩
  · exact h
  · rw [upd_ne (ne_of_none h h2), upd_ne fun z => by rw [z, h1] at h; cases h; cases n]
    exact h
theorem Grown.there (g : Grown H G P c q) {b : Addr} (h : H b ≠ none) : G b ≠ none := by
  rcases g with rfl | ⟨ps, more, h1, h2, rfl⟩
  · exact h
  · intro z
    by_cases e1 : b = c
    · rw [e1, upd_same] at z; cases z
    · rw [upd_ne e1] at z
      by_cases e2 : b = P
      · rw [e2, upd_same] at z; cases z
      · rw [upd_ne e2] at z; exact h z
theorem St.lam (st : St K mg sd σ H W) (g : Grown H G P c q) (tabs : LamX.Tabs HW.T G) : St K mg sd σ G W ∧ Kp sd σ H W sd σ G W :=
  st.growN (Le.refl _) (fun b o e => g.keep (st.le b o e) (by cases o <;> first | rfl | exact absurd e (st.tabs.1 b _))) (fun b o e n => g.keep e n) (fun b e => g.there e) (fun _ e _ => e) ⟨st.tabs.1, st.tabs.2.1, tabs⟩
end
/-! try: got = call() / except (A, B, C) as e: return sort(e) / return ['returned', got] -/
def TTans (K : PySem.W.Frag) (mg : Str → Option Value) (c1 c2 c3 : Value) (Ns : List Str) (ok : Exn → Bool) (body : Exn → Addr → MS) : (XK → Hp → VK → Prop) → Hp → VK → Prop := fun tl H Q =>
  tl (fun cls d H' => ∃ x C, ok x = true ∧ d = none ∧ cls = .ref C ∧ mg x.c = some (.ref C) ∧ PySem.W.exmAny K cls [c1, c2, c3] = some true ∧ ∀ a, H' a = none → tM K mg [] (body x a) (endsOf Q) (L2.start Ns [.ref a]) H') H
    fun v H' => ∀ a, H' a = none → Q (.ref a) (upd H' a (.lst [.str "returned", v]))
section
variable {X : Cx} {Ng Ns ps : List Str} {x a q got en sn x1 x2 x3 : Str} {sg : Scope} {g fs : Addr} {fds : FuncData} {cdg : Value} {i j k kk kz : Nat} {c1 c2 c3 : Value} {ok : Exn → Bool} {body : Exn → Addr → MS} {p1 p2 p3 p4 p5 p6 p7 p8 p9 q1 q2 q3 q4 q5 q6 q7 q8 q9 : Pos}
end
/-- what the call told, or what is said of the exception -/
def ansM (m : M D) (r : R) (sf : Exn → Option D) : M D := fun s => match r s with
  | some (x, s') => (sf x).map fun d => (d, s')
  | none => (m s).map fun z => (.lst [.str "returned", z.1], z.2)
/-- the def x calls what it gets, and says what came of it -/
structure AnsX (P : Program) (w : World) (K : PySem.W.Frag) (mg : Str → Option Value) (base : Heap) (k : Nat) (x a : Str) (pg : Arguments) (bg : List Stmt) (sg : Scope) (Ng Ns ps : List Str) (c1 c2 c3 : Value) (ok : Exn → Bool) (body : Exn → Addr → MS) (sf : Exn → Option D) : Prop where
  fn : ∃ g dV kV doc pm cdv ct oc an od osl, mg x = some (.ref g) ∧ PySem.W.keepIn K (.ref g) = true ∧ K.lookup g = some ⟨oc, od, .func (PySem.W.fnOf x x pg bg sg dV kV doc pm an cdv ct), osl⟩ ∧ PySem.W.codeIn K cdv x = true ∧ L2.Binds K (PySem.W.fnOf x x pg bg sg dV kV doc pm an cdv ct) [a] [] ∧
    ∀ (X : Cx) (q : Str), X.prog = P → X.w = w → X.K = K → X.mg = mg → X.base = base → Room (k + 1) X.A → LamX.GivesTo X Ng x sg g cdv bg a q (TTans K mg c1 c2 c3 Ns ok body)
  Sg : FnScope Ng [a] sg
  a0 : Ng[0]? = some a
  va : Vis sg a
  da : (a == ("__debug__" : Str)) = false
  dc : (a == ("__classdict__" : Str)) = false
  hn : ps.length = 1
  ex : ∀ y C, ok y = true → mg y.c = some (.ref C) → PySem.W.exmAny K (.ref C) [c1, c2, c3] = some true
  nf : ∀ y, ok y = true → y.fs = []
  says : ∀ y d, sf y = some d → ok y = true ∧ ∀ b, ∃ s2, callR Ns.length (body y b) [.d (.ptr b)] = some (.rd d s2)
section
variable {X : Cx} {Ng Ns ps : List Str} {x a : Str} {pg params : Arguments} {bg : List Stmt} {sg scope : Scope} {c P : Addr} {k : Nat} {c1 c2 c3 : Value} {ok : Exn → Bool} {body : Exn → Addr → MS} {sf : Exn → Option D} {e : Expr} {m : M D} {r : R} {p lpos pos : Pos}
end
end Fli
set_option Elab.async false
set_option linter.all false
set_option maxRecDepth 100000
set_option maxHeartbeats 4000000
namespace Fli
open PySem PySem.Spec PyProof.Rows L2

/-! the law's end, a def of the law making lambdas -/
end Fli
set_option Elab.async false
set_option linter.all false
set_option maxRecDepth 100000
set_option maxHeartbeats 4000000
namespace Fli
open PySem PySem.Spec PyProof.Rows L2
variable [HW]

/-! l.count(b), l a list of truth values -/
def isBl (k : Bool) : Value → Bool
  | .bool b => b == k
  | _ => false
theorem bl_count {k : Bool} : ∀ {bs : List Bool} {us : List Value}, Vals (bs.map V.bl) us → us.countP (isBl k) = bs.count k ∧ ∀ y ∈ us, ∃ b, y = .bool b
  | [], _, r => by cases r; exact ⟨rfl, fun y h => by cases h⟩
  | b :: bs, _, r => by
    cases r with
    | cons r1 r2 =>
      cases r1
      obtain ⟨h1, h2⟩ := bl_count (k := k) r2
      refine ⟨?_, fun y h => ?_⟩
      · rw [List.countP_cons, List.count_cons, h1]
        rfl
      · rcases List.mem_cons.mp h with rfl | h
        · exact ⟨b, rfl⟩
        · exact h2 y h
def rCntB (K : PySem.W.Frag) : V → List V → Hp → VK → Prop := fun x xs H Q => ∃ (p : Addr) (bs : List Bool) (k : Bool), x = .ref p ∧ xs = [.bl k] ∧ SqL K H p (bs.map V.bl) ∧ Q (.int (bs.count k : Nat)) H
theorem mt_countB {X : Cx} : MtR X "list.count" (rCntB X.K) := by
  intro pins s σ H x xs v us Q I rx rxs h
  obtain ⟨p, bs, k, rfl, rfl, hs, q⟩ := h
  cases rx
  obtain ⟨u, rfl, ru⟩ := rxs.one
  obtain rfl : u = Value.bool k := ru
  obtain ⟨its, rv, ⟨⟨cls, dd, data, sl⟩, n, ho, hc, hdn, hd⟩, hlen⟩ := I.list hs
  dsimp only at hc hd
  subst hc hd
  obtain ⟨c1, c2⟩ := bl_count (k := k) rv
  refine call_meets PySem.F.slot_list_count ⟨_, ho, rfl⟩ PySem.F.entry_list_count (PySem.F.args_list_count_2 _ _) (SeqAt.list_countAt p its.toArray n dd sl (.bool k) (isBl k)) ⟨ho, fun y hy => ?_, ?_⟩
  · obtain ⟨b, rfl⟩ := c2 y (by simpa using hy)
    exact SeqAt.EqAt.bool_bool b k
  · refine ⟨.int (bs.count k : Nat), H, I.tok _, ⟨s.toks, ?_⟩, q⟩
    show Value.int ((its.toArray.toList.countP (isBl k) : Nat) : Int) s.toks = Value.int ((bs.count k : Nat) : Int) s.toks
    rw [← c1]
def cntD : D → D → Option D
  | .lst ds, .bl k => (blsD ds).map fun bs => .int (bs.count k : Nat)
  | _, _ => none
section
variable {X : Cx} {o e : Expr} {ma mb : M D} {apos pos : Pos}
theorem e_cnt (ho : DE X o ma) (he : DE X e mb) (h1 : attributeBase o "count" X.env (eval o X.env) = eval o X.env := by rfl)
    (h2 : ((((backTo pos (starEach [e] X.env)).all fun x => !x.1) && (backToKw pos (keywordEach [] X.env)).all fun x => x.1.isSome) && decide (([e].length + ([] : List Keyword).length + if ([] : List Keyword).isEmpty = true then 0 else 1) < 30)) = true := by rfl) (h3 : (apos.endLine == pos.line) = true := by rfl)
    (h4 : starEach [e] X.env = (false, eval e X.env) :: starEach [] X.env := by rfl) (h5 : (backTo pos (starEach [] X.env)).any (fun x => x.1) = false := by rfl) :
    DE X (.Call (.Attribute o "count" apos) [e] [] pos) (mBin cntD ma mb) := PE.imp (pe_bm PySem.F.plainAttrs_list PySem.F.slot_list_count PySem.F.type_list_count mt_countB ho (pa_cons he pa_nil h4) h1 h2 h3 h4 h5) fun σ H Q ⟨sd, W, d, sd', st, em, q⟩ => by
  obtain ⟨a, s1, e1, em⟩ := bindM_some em
  obtain ⟨b, s2, e2, em⟩ := bindM_some em
  obtain ⟨e3, rfl⟩ := optM_some em
  refine ⟨sd, W, a, s1, st, e1, fun v H1 W1 st1 k1 r1 => ?_⟩
  unfold cntD at e3
  split at e3
  · cases r1 with
    | @lst ad vs _ sa ra =>
      refine ⟨.inl ⟨rfl, vs, .inl (.inl (st1.le _ _ sa))⟩, s1, W1, _, sd', st1, e2, fun u H2 W2 st2 k2 r2 => ?_⟩
      cases r2
      simp only [Option.map_eq_some_iff] at e3
      obtain ⟨bs, hb, rfl⟩ := e3
      exact ⟨ad, bs, _, rfl, rfl, by rw [← bls_rs ra hb]; exact .inl (.inl (st2.le _ _ (k2.le _ _ sa))), q _ H2 W2 st2 (k1.trans k2) (.int _)⟩
  · cases e3
end
/-! isinstance of the exception, by the names of classes -/
/-- t: what isinstance tells of an object of the class c, of the class tn of the program -/
def IsO (K : PySem.W.Frag) (mg : Str → Option Value) (c tn : Str) (t : Option Bool) : Prop := ∃ A, mg tn = some (.ref A) ∧ ∀ C b, mg c = some (.ref C) → t = some b → PySem.W.kitOne K (.ref C) (.ref A) = some b
def IsT (K : PySem.W.Frag) (mg : Str → Option Value) (c tn : Str) (T : String) (t : Option Bool) : Prop := mg tn = none ∧ ∀ C b, mg c = some (.ref C) → t = some b → PySem.W.kitOne K (.ref C) (.type T) = some b
section
variable {X : Cx} {a : Addr} {c tn : Str} {p pos p2 : Pos} {e : Expr} {oe : Obj} {m : M D} {t : Option Bool}
end
end Fli
set_option Elab.async false
set_option linter.all false
set_option maxRecDepth 100000
set_option maxHeartbeats 4000000
namespace Fli
open PySem PySem.Spec PyProof.Rows L2
variable [HW]

theorem _root_.L2H.RoomH.units {k : Nat} {A : Around} (r : L2H.RoomH k A) : A.units + 64 < cLine := by have := r.un; omega
/-! facts in one: a class that is raised without arguments, a def that makes lambdas -/
def FunC (K : PySem.W.Frag) (x : Str) (st : Stmt) (f : Addr) (fd : FuncData) (c : Addr) : Prop := ∃ (oc : Value) (od : Option Addr) (kV doc pm : Value) (an : Option Addr) (ct : Value) (osl : Array (Option Value)),
  fd = PySem.W.fnOf x x (defArgs st) (defBody st) (defScope st) .none kV doc pm an (.ref c) ct ∧ K.lookup f = some ⟨oc, od, .func fd, osl⟩ ∧ PySem.W.codeIn K (.ref c) x = true ∧ PySem.W.keepIn K (.ref f) = true
section
variable {P : Program} {w : World} {K : PySem.W.Frag} {mg : Str → Option Value} {base : Heap}
theorem FnP.mono {k j : Nat} {f : Addr} {fd : FuncData} {ps : List Str} {x : Str} {sp : Addr → Sp} (F : FnP P w K mg base j f fd ps x sp) (h : j ≤ k) : FnP P w K mg base k f fd ps x sp :=
  ⟨F.len, fun hr => F.run (hr.mono h)⟩
end
section
variable {X : Cx} {k n : Nat} {N ps : List Str} {body : MS} {x : Str} {p pos : Pos} {e : Expr} {mo : M O}
end
theorem FunC.kp {K : PySem.W.Frag} {x : Str} {st : Stmt} {f c : Addr} {fd : FuncData} (F : FunC K x st f fd c) : PySem.W.keepIn K (.ref f) = true := by
  obtain ⟨_, _, _, _, _, _, _, _, _, _, _, h⟩ := F
  exact h
theorem FunC.binds {K : PySem.W.Frag} {x : Str} {st : Stmt} {f c : Addr} {fd : FuncData} {ps : List Str} (F : FunC K x st f fd c) (b : BindsLike x x st ps) : Binds K fd ps [] := by
  obtain ⟨oc, od, kV, doc, pm, an, ct, osl, e, _, _, _⟩ := F
  subst e
  intro s us KX hl
  rw [List.append_nil] at hl ⊢
  exact .of_eq (b kV doc pm an (.ref c) ct us hl)
end Fli
set_option Elab.async false
set_option linter.all false
set_option maxRecDepth 100000
set_option maxHeartbeats 4000000
namespace Fli
open PySem PySem.Spec PyProof.Rows L2

/-! the facts, from what the top has left -/
/-- a def that makes lambdas, its code object and its table -/
def TabR (K : PySem.W.Frag) (mg : Str → Option Value) (x : Str) (st : Stmt) : Prop := ∃ f fd c P, FunC K x st f fd c ∧ mg x = some (.ref f) ∧ PySem.W.tabIn K x = some (c, P) ∧ K.lookup P = none
section
variable {K : PySem.W.Frag} {mg : Str → Option Value} {h : Heap}
theorem tabR_mk {x : Str} {st : Stmt} {f c P : Addr} {oc oc2 : Value} {od od2 an : Option Addr} {osl sl : Array (Option Value)} {kV doc pm ct : Value} {vs : Array Value} (X : K.In h) (G : h.Ns mainGlobals mg) (a : PySem.W.nsIn K mainGlobals x = some (some (.ref f)))
    (l : K.lookup f = some ⟨oc, od, .func (PySem.W.fnOf x x (defArgs st) (defBody st) (defScope st) .none kV doc pm an (.ref c) ct), osl⟩) (cd : PySem.W.codeIn K (.ref c) x = true) (k : PySem.W.keepIn K (.ref f) = true) (lc : K.lookup c = some ⟨oc2, od2, .fields vs, sl⟩) (hv : vs[11]? = some (.ref P)) (nP : K.lookup P = none) : TabR K mg x st :=
  ⟨f, _, c, P, ⟨oc, od, kV, doc, pm, an, ct, osl, rfl, l, cd, k⟩, PySem.W.mg_of X G a, by
    unfold PySem.W.tabIn
    rw [a]
    dsimp only
    rw [l]
    dsimp only [PySem.W.fnOf]
    rw [lc]
    dsimp only
    rw [hv], nP⟩
theorem isO_mk {c tn : Str} {C A : Addr} {b : Bool} {t : Option Bool} (X : K.In h) (G : h.Ns mainGlobals mg) (ac : PySem.W.nsIn K mainGlobals c = some (some (.ref C))) (aa : PySem.W.nsIn K mainGlobals tn = some (some (.ref A))) (kt : PySem.W.kitOne K (.ref C) (.ref A) = some b) (ht : t = some b) : IsO K mg c tn t :=
  ⟨A, PySem.W.mg_of X G aa, fun C' b' e1 e2 => by rw [PySem.W.mg_of X G ac] at e1; cases e1; rw [ht] at e2; cases e2; exact kt⟩
theorem isT_mk {c tn : Str} {C : Addr} {T : String} {b : Bool} {t : Option Bool} (X : K.In h) (G : h.Ns mainGlobals mg) (ac : PySem.W.nsIn K mainGlobals c = some (some (.ref C))) (an : PySem.W.nsIn K mainGlobals tn = some none) (kt : PySem.W.kitOne K (.ref C) (.type T) = some b) (ht : t = some b) : IsT K mg c tn T t :=
  ⟨PySem.W.mg_none_of X G an, fun C' b' e1 e2 => by rw [PySem.W.mg_of X G ac] at e1; cases e1; rw [ht] at e2; cases e2; exact kt⟩
theorem excC_mk {c : Str} {C : Addr} (X : K.In h) (G : h.Ns mainGlobals mg) (ac : PySem.W.nsIn K mainGlobals c = some (some (.ref C))) (z1 : PySem.W.findIn K (.ref C) "__getattribute__" = some (some (.builtin "BaseException.__getattribute__"))) (z2 : PySem.W.findIn K (.ref C) "__getattr__" = some none)
    (z3 : PySem.W.subIn K (.ref C) (.type "BaseException") = some true) (z4 : PySem.W.hasDictIn K C = true) (z5 : PySem.W.findIn K (.ref C) "__class__" = some (some (.builtin "object.__class__"))) (z6 : PySem.W.specialIn K (.builtin "object.__class__") "__get__" = some (some (.builtin "getset_descriptor.__get__")))
    (z7 : PySem.W.takesIn K (.builtin "object.__class__") = some true) (z8 : PySem.W.mroIn K C (.type "object") = some true) : ∀ C', mg c = some (.ref C') → ExcC K C' := fun C' e => by
  rw [PySem.W.mg_of X G ac] at e
  cases e
  exact ⟨z1, z2, z3, z4, z5, z6, z7, z8⟩
/-- of three classes, one is above it -/
theorem exm3_mk {c : Str} {C A1 A2 A3 : Addr} {b1 b2 b3 : Bool} (X : K.In h) (G : h.Ns mainGlobals mg) (ac : PySem.W.nsIn K mainGlobals c = some (some (.ref C))) (x1 : PySem.W.exmOne K (.ref C) (.ref A1) = some b1) (x2 : PySem.W.exmOne K (.ref C) (.ref A2) = some b2) (x3 : PySem.W.exmOne K (.ref C) (.ref A3) = some b3) (hb : (b1 || (b2 || (b3 || false))) = true) :
    ∀ C', mg c = some (.ref C') → PySem.W.exmAny K (.ref C') [.ref A1, .ref A2, .ref A3] = some true := fun C' e => by
  rw [PySem.W.mg_of X G ac] at e
  cases e
  simp only [PySem.W.exmAny, x1, x2, x3]
  rw [hb]
end
theorem em_mk {K : PySem.W.Frag} {mg : Str → Option Value} {h : Heap} {c n1 n2 n3 : Str} {C A1 A2 A3 : Addr} {b1 b2 b3 : Bool} (X : K.In h) (G : h.Ns mainGlobals mg) (ac : PySem.W.nsIn K mainGlobals c = some (some (.ref C))) (z1 : PySem.W.nsIn K mainGlobals n1 = some (some (.ref A1))) (z2 : PySem.W.nsIn K mainGlobals n2 = some (some (.ref A2))) (z3 : PySem.W.nsIn K mainGlobals n3 = some (some (.ref A3)))
    (x1 : PySem.W.exmOne K (.ref C) (.ref A1) = some b1) (x2 : PySem.W.exmOne K (.ref C) (.ref A2) = some b2) (x3 : PySem.W.exmOne K (.ref C) (.ref A3) = some b3) (hb : (b1 || (b2 || (b3 || false))) = true) :
    ∃ A1 A2 A3, mg n1 = some (.ref A1) ∧ mg n2 = some (.ref A2) ∧ mg n3 = some (.ref A3) ∧ ∀ C', mg c = some (.ref C') → PySem.W.exmAny K (.ref C') [.ref A1, .ref A2, .ref A3] = some true :=
  ⟨A1, A2, A3, PySem.W.mg_of X G z1, PySem.W.mg_of X G z2, PySem.W.mg_of X G z3, exm3_mk X G ac x1 x2 x3 hb⟩
/-- one instance alone has this program, this world, this table -/
theorem fd_mk {Pg : Program} {w : World} {T : List (Addr × Str)} {Q : FuncData → Prop} {R : HW → FuncData → Heap → Prop} {Z : Heap → Prop} {Y : Heap → Prop} {V : Heap → Prop} (h : ∃ fd, Q fd ∧ ∀ base, Z base → Y base → V base → R ⟨Pg, w, T⟩ fd base) :
    ∃ fd, Q fd ∧ ∀ i : HW, i.P = Pg → i.w = w → i.T = T → ∀ base, Z base → Y base → V base → R i fd base := by
  obtain ⟨fd, h1, h2⟩ := h
  refine ⟨fd, h1, fun i e1 e2 e3 => ?_⟩
  obtain ⟨P', w', T'⟩ := i
  cases e1
  cases e2
  cases e3
  exact h2
theorem tab_then {p q : Prop} (h : p) (k : p → q) : q := k h
end Fli
set_option Elab.async false
set_option linter.all false
set_option maxRecDepth 100000
set_option maxHeartbeats 4000000
namespace Fli
open PySem PySem.Spec PyProof.Rows L2
variable [HW]
/-! a dict that is data, locked while it is walked -/
section
variable {K : PySem.W.Frag} {mg : Str → Option Value} {W : Hp} {a : Addr} {gs : List (Key × V)} {od : Obj}
theorem lk_at {b : Addr} {u : HO} (w : W a = some (.dK gs)) (h : W b = some u) (n : u ≠ .dK gs) : upd W a (.frz od (.dK gs)) b = some u := by
  rw [upd_ne (fun z => by rw [z, w] at h; cases h; exact n rfl)]; exact h
theorem dx_ne {b : Addr} {xs : List (List Key × Addr × V)} : DX b xs ≠ .dK gs := fun z => by unfold DX at z; cases z
theorem sf_lk {b : Addr} {vs : List V} (w : W a = some (.dK gs)) (h : SqF K W b vs) : SqF K (upd W a (.frz od (.dK gs))) b vs := by
  rcases h with ⟨ob, h, f⟩ | h
  · exact .inl ⟨ob, lk_at w h (fun z => nomatch z), f⟩
  · exact .inr h
theorem sl_lk {b : Addr} {vs : List V} (w : W a = some (.dK gs)) (h : SqL K W b vs) : SqL K (upd W a (.frz od (.dK gs))) b vs := by
  rcases h with (h | ⟨o, h⟩) | h
  · exact .inl (.inl (lk_at w h (fun z => nomatch z)))
  · exact .inl (.inr ⟨o, lk_at w h (fun z => nomatch z)⟩)
  · exact .inr h
theorem rd_lk {b : Addr} {hs : List (Key × V)} (w : W a = some (.dK gs)) (h : Rd W b (.dK hs)) : Rd (upd W a (.frz od (.dK gs))) b (.dK hs) := by
  by_cases z : b = a
  · subst z
    rcases h with h | ⟨o, h⟩
    · rw [w] at h; cases h; exact .inr ⟨od, upd_same⟩
    · rw [w] at h; cases h
  · exact h.imp (fun h => by rw [upd_ne z]; exact h) fun ⟨o, h⟩ => ⟨o, by rw [upd_ne z]; exact h⟩
mutual
theorem DR.lk (w : W a = some (.dK gs)) : ∀ {v : V} {d : D}, DR K mg W v d → DR K mg (upd W a (.frz od (.dK gs))) v d
  | _, _, .non => .non
  | _, _, .bl b => .bl b
  | _, _, .int i => .int i
  | _, _, .str x => .str x
  | _, _, .tup s r => .tup (sf_lk w s) (DRs.lk w r)
  | _, _, .lst s r => .lst (lk_at w s (fun z => nomatch z)) (DRs.lk w r)
  | _, _, .scr s => .scr (sl_lk w s)
  | _, _, .ins m s r => .ins m (lk_at w s (fun z => nomatch z)) (DFs.lk w r)
  | _, _, .cls m => .cls m
  | _, _, .dic h r => .dic (rd_lk w h) (DKs.lk w r)
  | _, _, .dit h r => .dit (lk_at w h dx_ne) (DTs.lk w r)
  | _, _, .ptr => .ptr
  | _, _, .exc h r => .exc (lk_at w h (fun z => nomatch z)) (DFs.lk w r)
theorem DRs.lk (w : W a = some (.dK gs)) : ∀ {vs : List V} {ds : List D}, DRs K mg W vs ds → DRs K mg (upd W a (.frz od (.dK gs))) vs ds
  | _, _, .nil => .nil
  | _, _, .cons h r => .cons (DR.lk w h) (DRs.lk w r)
theorem DFs.lk (w : W a = some (.dK gs)) : ∀ {gs' : List (Str × V)} {fs : List (Str × D)}, DFs K mg W gs' fs → DFs K mg (upd W a (.frz od (.dK gs))) gs' fs
  | _, _, .nil => .nil
  | _, _, .cons h r => .cons (DR.lk w h) (DFs.lk w r)
theorem DKs.lk (w : W a = some (.dK gs)) : ∀ {gs' : List (Key × V)} {fs : List (Key × D)}, DKs K mg W gs' fs → DKs K mg (upd W a (.frz od (.dK gs))) gs' fs
  | _, _, .nil => .nil
  | _, _, .cons h r => .cons (DR.lk w h) (DKs.lk w r)
theorem DTs.lk (w : W a = some (.dK gs)) : ∀ {gs' : List (List Key × Addr × V)} {fs : List (List Key × D)}, DTs K mg W gs' fs → DTs K mg (upd W a (.frz od (.dK gs))) gs' fs
  | _, _, .nil => .nil
  | _, _, .cons s h r => .cons (sf_lk w s) (DR.lk w h) (DTs.lk w r)
end
/-- .. and the way back -/
theorem ul_at {b : Addr} {u : HO} (w : W a = some (.frz od (.dK gs))) (h : W b = some u) (n : u ≠ .frz od (.dK gs)) : upd W a (.dK gs) b = some u := by
  rw [upd_ne (fun z => by rw [z, w] at h; cases h; exact n rfl)]; exact h
theorem sf_ul {b : Addr} {vs : List V} (w : W a = some (.frz od (.dK gs))) (h : SqF K W b vs) : SqF K (upd W a (.dK gs)) b vs := by
  rcases h with ⟨ob, h, f⟩ | h
  · exact .inl ⟨ob, ul_at w h (fun z => by cases z), f⟩
  · exact .inr h
theorem sl_ul {b : Addr} {vs : List V} (w : W a = some (.frz od (.dK gs))) (h : SqL K W b vs) : SqL K (upd W a (.dK gs)) b vs := by
  rcases h with (h | ⟨o, h⟩) | h
  · exact .inl (.inl (ul_at w h (fun z => nomatch z)))
  · exact .inl (.inr ⟨o, ul_at w h (fun z => by cases z)⟩)
  · exact .inr h
theorem rd_ul {b : Addr} {hs : List (Key × V)} (w : W a = some (.frz od (.dK gs))) (h : Rd W b (.dK hs)) : Rd (upd W a (.dK gs)) b (.dK hs) := by
  by_cases z : b = a
  · subst z
    rcases h with h | ⟨o, h⟩
    · rw [w] at h; cases h
    · rw [w] at h; cases h; exact .inl upd_same
  · exact h.imp (fun h => by rw [upd_ne z]; exact h) fun ⟨o, h⟩ => ⟨o, by rw [upd_ne z]; exact h⟩
theorem dx_nf {b : Addr} {xs : List (List Key × Addr × V)} {u : HO} : DX b xs ≠ .frz od u := fun z => by unfold DX at z; cases z
mutual
theorem DR.ul (w : W a = some (.frz od (.dK gs))) : ∀ {v : V} {d : D}, DR K mg W v d → DR K mg (upd W a (.dK gs)) v d
  | _, _, .non => .non
  | _, _, .bl b => .bl b
  | _, _, .int i => .int i
  | _, _, .str x => .str x
  | _, _, .tup s r => .tup (sf_ul w s) (DRs.ul w r)
  | _, _, .lst s r => .lst (ul_at w s (fun z => nomatch z)) (DRs.ul w r)
  | _, _, .scr s => .scr (sl_ul w s)
  | _, _, .ins m s r => .ins m (ul_at w s (fun z => nomatch z)) (DFs.ul w r)
  | _, _, .cls m => .cls m
  | _, _, .dic h r => .dic (rd_ul w h) (DKs.ul w r)
  | _, _, .dit h r => .dit (ul_at w h dx_nf) (DTs.ul w r)
  | _, _, .ptr => .ptr
  | _, _, .exc h r => .exc (ul_at w h (fun z => nomatch z)) (DFs.ul w r)
theorem DRs.ul (w : W a = some (.frz od (.dK gs))) : ∀ {vs : List V} {ds : List D}, DRs K mg W vs ds → DRs K mg (upd W a (.dK gs)) vs ds
  | _, _, .nil => .nil
  | _, _, .cons h r => .cons (DR.ul w h) (DRs.ul w r)
theorem DFs.ul (w : W a = some (.frz od (.dK gs))) : ∀ {gs' : List (Str × V)} {fs : List (Str × D)}, DFs K mg W gs' fs → DFs K mg (upd W a (.dK gs)) gs' fs
  | _, _, .nil => .nil
  | _, _, .cons h r => .cons (DR.ul w h) (DFs.ul w r)
theorem DKs.ul (w : W a = some (.frz od (.dK gs))) : ∀ {gs' : List (Key × V)} {fs : List (Key × D)}, DKs K mg W gs' fs → DKs K mg (upd W a (.dK gs)) gs' fs
  | _, _, .nil => .nil
  | _, _, .cons h r => .cons (DR.ul w h) (DKs.ul w r)
theorem DTs.ul (w : W a = some (.frz od (.dK gs))) : ∀ {gs' : List (List Key × Addr × V)} {fs : List (List Key × D)}, DTs K mg W gs' fs → DTs K mg (upd W a (.dK gs)) gs' fs
  | _, _, .nil => .nil
  | _, _, .cons s h r => .cons (sf_ul w s) (DR.ul w h) (DTs.ul w r)
end
end
section
variable {K : PySem.W.Frag} {mg : Str → Option Value} {sd : S} {σ : L2.St} {H W : Hp} {a : Addr} {gs : List (Key × V)} {od : Obj}
theorem St.known {b : Addr} (st : St K mg sd σ H W) (w : W a ≠ none) {i : Nat} {o : O} (h : sd[i]? = some (some (.own o))) (e : σ[i]? = some (some (.ref b))) : b ≠ a := fun z => by
  obtain ⟨b', e1, w', _⟩ := st.own i o h
  rw [e] at e1; cases e1
  exact w (z ▸ w')
end
/-! [.. for k in d if ..], d a dict given as data, in a slot -/
section
variable {X : Cx} {elt tg : Expr} {ifs : List Expr} {scope : Scope} {own : List (Str × Nat)} {vs : List Nat} {pos spos py p2 : Pos} {x : Str} {g : TG} {asg : D → S → Option S} {c : M Bool} {el : M D}
end
/-! min(xs), max(xs) of a list of ints -/
end Fli
set_option Elab.async false
set_option linter.all false
set_option maxRecDepth 100000
set_option maxHeartbeats 4000000
namespace Fli
open PySem PySem.Spec PyProof.Rows L2
variable [HW]
/-! dict(pairs), a list of pairs (key, value) -/
section
variable {K : PySem.W.Frag} {mg : Str → Option Value}
end
/-! [.. for k in x[y] if ..], x a dict of dicts given as data -/
section
variable {K : PySem.W.Frag} {mg : Str → Option Value} {sd : S} {σ : L2.St} {H W : Hp} {i j : Nat} {ks : List D} {s' : S}
end
section
variable {X : Cx} {elt tg : Expr} {ifs : List Expr} {scope : Scope} {own : List (Str × Nat)} {vs : List Nat} {pos spos py p2 p3 p4 : Pos} {x y : Str} {g : TG} {asg : D → S → Option S} {c : M Bool} {el : M D}
end
/-! len(d), d a dict -/
end Fli
set_option Elab.async false
set_option linter.all false
set_option maxRecDepth 100000
set_option maxHeartbeats 4000000
/-! zip of a tuple and a text of plain signs, as long as one another -/
namespace Fli
open PySem PySem.Spec PyProof.Rows L2 RZ
section
variable {prog : Program} {w : World} {A : Around} {E : Value → Shared → Prop} {s : Shared}
end
end Fli
set_option Elab.async false
set_option linter.all false
set_option maxRecDepth 100000
set_option maxHeartbeats 4000000
/-! zip of a tuple and a text: what is walked -/
namespace Fli
open PySem PySem.Spec PyProof.Rows L2 RZ
section
variable [HW] {b : Bool} {K : PySem.W.Frag} {mg : Str → Option Value} {W : Hp}
end
end Fli
set_option Elab.async false
set_option linter.all false
set_option maxRecDepth 100000
set_option maxHeartbeats 4000000
/-! x[::-1] of a tuple -/
namespace PyProof.Rows
open PySem
section
variable {prog : Program} {w : World} {A : Around} {E : Value → Shared → Prop} {s : Shared}
end
end PyProof.Rows
namespace Fli
open PySem PySem.Spec PyProof.Rows L2
variable [HW]
section
variable {X : Cx} {e st : Expr} {te : TE} {ts : TO} {p2 pos : Pos}
end
end Fli
set_option Elab.async false
set_option linter.all false
set_option maxRecDepth 100000
set_option maxHeartbeats 4000000
namespace Fli
open PySem PySem.Spec PyProof.Rows L2

/-! the law's own call, one table of code objects, no repr under way -/
theorem lawT [HW] {P : Program} {w : World} {K : PySem.W.Frag} {mg mb : Str → Option Value} {k : Nat} {fa a c T : Addr} {fd : FuncData} {x : Str} {sp : Sp} {s : Shared} {vs : List Value} {ns : List Int} (inK : K.In s.heap)
    (gl : s.heap.Ns mainGlobals mg) (bl : s.heap.Ns builtinsNs mb) (blt : ∀ y : Str, y ≠ "__name__" → mb y = bootBuiltins y) (lim : s.heap.NoLimit) (gens : s.gens = #[]) (atT : s.heap.get? T = some { cls := .none, data := .fields #[] }) (outK : K.lookup T = none) (code : PySem.W.CodeHd s.heap c T)
    (bm : ∃ (m : Addr) (o : Obj), mg "__builtins__" = some (.ref m) ∧ m ≠ builtinsNs ∧ s.heap.get? m = some o ∧ o.cls = .type "module" ∧ o.dict = some builtinsNs ∧ o.data = .plain)
    (ha : s.heap.get? a = some { cls := .type "list", data := .seq vs.toArray }) (hi : IntsAre vs ns) (hl : ns.length ≤ sizeLine) (hr : Room k callerA)
    (F : ∀ base : Heap, K.In base → base.Ns mainGlobals mg → LamX.TabB base mg c T → FnG P w K mg base k fa fd [x] sp) (hb : ∀ (t : Shared) (u : Value), BindsTo t fd ⟨[u], []⟩ [(x, u)])
    (hsp : ∀ H : Hp, H T = some (.tbl #[]) → SqL K H a (ns.map V.int) → sp [.ref a] H (fun v _ => v = .bl true) fun _ _ _ => False) :
    codeAny (model P w) callerA (.call (.ref fa) ⟨[.ref a], []⟩) (fun r t => r = .ok (.ret (.bool true)) ∧ OldK s.heap t.heap ∧ t.os = s.os ∧ AllBare t.gens) s := by
  have rel := vals_ints hi
  have aT : a ≠ T := fun z => by
    rw [z, atT] at ha
    have y : Data.fields #[] = Data.seq vs.toArray _ := congrArg Obj.data (Option.some.inj ha)
    cases y
  have go : ∀ H : Hp, H T = some (.tbl #[]) → (∀ b u, H b = some u → b = T ∨ b = a ∧ ∃ ob ys, u = .frz ob (.lst ys)) → SqL K H a (ns.map V.int) → HOk P w H s.heap → (H a ≠ none → K.lookup a = none) →
      codeAny (model P w) callerA (.call (.ref fa) ⟨[.ref a], []⟩) (fun r t => r = .ok (.ret (.bool true)) ∧ OldK s.heap t.heap ∧ t.os = s.os ∧ AllBare t.gens) s := by
    intro H hT only sq ok alone
    have there : ∀ {b : Addr} {o : Obj}, s.heap.get? b = some o → b ≠ a → b ≠ T → (hidT s.heap H).get? b = some o := fun {b o} e n1 n2 => hidT_get e (by
      cases q : H b with
      | none => rfl
      | some u => rcases only b u q with z | ⟨z, _⟩ <;> contradiction)
    have far : ∀ {b : Addr} {o : Obj} {es : Array DictEntry} {ep : Nat}, s.heap.get? b = some o → o.data = .dict es ep → b ≠ a ∧ b ≠ T := fun {b o es ep} e d => ⟨(fun z => by rw [z, ha] at e; cases e; cases d), (fun z => by rw [z, atT] at e; cases e; cases d)⟩
    have spaces : ∀ {b : Addr} {m : Str → Option Value}, s.heap.Ns b m → (hidT s.heap H).Ns b m := fun {b m} ⟨o, es, ep, e, d, r⟩ => ⟨o, es, ep, there e (far e d).1 (far e d).2, d, r⟩
    have kept : K.In (hidT s.heap H) := fun b o e => hidT_get (inK b o e) (by
      cases q : H b with
      | none => rfl
      | some u =>
        rcases only b u q with z | ⟨z, _⟩
        · rw [z, outK] at e; cases e
        · rw [z] at e q
          rw [alone (by rw [q]; simp)] at e; cases e)
    have md : L2.Mod K mg (hidT s.heap H) := ⟨kept, spaces gl, ⟨mb, spaces bl, blt⟩, let ⟨mc, h1, h2⟩ := lim; ⟨mc, spaces h1, h2⟩⟩
    have tb : LamX.TabB (hidT s.heap H) mg c T := by
      refine ⟨?_, ?_, fun z => ?_⟩
      · obtain ⟨o, us, file, tf, flags, tg, inF, text, tt, e1, r1, r2, r3, r⟩ := code
        exact ⟨o, us, file, tf, flags, tg, inF, text, tt, there e1 (fun z => by rw [z, ha] at e1; cases e1; cases r2) (fun z => by rw [z, atT] at e1; cases e1; cases r2; simp at r3), r1, r2, r3, r⟩
      · obtain ⟨m, o, h1, h2, h3, h4, h5, h6⟩ := bm
        have nG : m ≠ mainGlobals := fun z => by
          obtain ⟨o2, es, ep, e, d, _⟩ := gl
          rw [z, e] at h3; cases h3
          rw [d] at h6; cases h6
        have nT : m ≠ T := fun z => by rw [z, atT] at h3; cases h3; cases h6
        exact ⟨m, o, h1, h2, nG, nT, there h3 (fun z => by rw [z, ha] at h3; cases h3; cases h6) nT, h4, h5, h6⟩
      · obtain ⟨o, es, ep, e, d, _⟩ := gl
        rw [z, atT] at e; cases e
        cases d
    have env : Env0 P w K mg (hidT s.heap H) callerA [] s H := ⟨rfl, md, fun b o e => of_hidT e, Nat.le_of_eq (hidT_size _ _), trivial, fun b hb => absurd (show b ∈ ([] : List Addr) from hb) (by simp), ok, .of_eq gens⟩
    refine codeAny_mono ((F _ kept (spaces gl) tb).run (us := [.ref a]) (vs := [.ref a]) rfl hr env (hb s (.ref a)) (.cons rfl .nil) (hsp H hT sq)) fun r t h => ?_
    cases r with
    | error e => exact False.elim h
    | ok fl =>
      cases fl with
      | next => exact False.elim h
      | brk => exact False.elim h
      | cont => exact False.elim h
      | ret u =>
        obtain ⟨v, H', os, bare, un, ok', rv, q⟩ := h
        have q : v = .bl true := q
        subst q
        obtain rfl : u = Value.bool true := rv
        have same : ∀ b o, b ≠ T → s.heap.get? b = some o → t.heap.get? b = some o := fun b o n e => by
          cases q : H b with
          | none => exact un.keep b o e q (fun z => nomatch z) fun z => nomatch z
          | some z =>
            rcases only b z q with y | ⟨_, ob, ys, rfl⟩
            · exact absurd y n
            · have f1 := (ok b _ q).1
              have f2 := (ok' b _ (un.frzs b ob _ q)).1
              rw [e] at f1; cases f1
              exact f2
        obtain ⟨more, new⟩ := un.tbls T #[] hT
        have new : t.heap.get? T = some { cls := .none, data := .fields more } := by
          have y := ok' T _ new
          rw [Array.empty_append] at y
          exact y
        refine ⟨rfl, ⟨fun b o e => ?_, fun b o e => ?_⟩, os, bare⟩
        · by_cases hb : b = T
          · rw [hb] at e ⊢
            rw [atT] at e; cases e
            exact .inr (.inl ⟨(code.tab atT).isCodeTable, rfl, #[], more, rfl, by rw [Array.empty_append]; exact new⟩)
          · exact .inl (same b o hb e)
        · by_cases hb : b = T
          · rw [hb]; exact ⟨_, new⟩
          · exact ⟨o, same b o hb e⟩
  cases hk : K.lookup a with
  | some o =>
    have e := inK a o hk
    rw [ha] at e; cases e
    refine go (upd (fun _ => none) T (.tbl #[])) upd_same (fun b u z => .inl ?_) (.inr ⟨_, vs.toArray, _, hk, rfl, rfl, rfl, by rw [List.size_toArray, hi.length]; exact hl, by simpa using rel⟩) (fun b u z => ?_) fun z => absurd (by rw [upd_ne aT]) z
    · by_cases y : b = T
      · exact y
      · rw [upd_ne y] at z; cases z
    · by_cases y : b = T
      · subst y
        rw [upd_same] at z; cases z
        exact atT
      · rw [upd_ne y] at z; cases z
  | none =>
    let ob : Obj := { cls := .type "list", data := .seq vs.toArray }
    refine go (upd (upd (fun _ => none) T (.tbl #[])) a (.frz ob (.lst (ns.map V.int)))) (by rw [upd_ne (Ne.symm aT), upd_same]) (fun b u z => ?_) (.inl (.inr ⟨ob, upd_same⟩)) (fun b u z => ?_) fun _ => hk
    · by_cases y : b = a
      · subst y
        rw [upd_same] at z; cases z
        exact .inr ⟨rfl, ob, _, rfl⟩
      · rw [upd_ne y] at z
        by_cases y2 : b = T
        · exact .inl y2
        · rw [upd_ne y2] at z; cases z
    · by_cases y : b = a
      · subst y
        rw [upd_same] at z; cases z
        exact ⟨ha, by rw [List.length_map]; exact hl, vs, _, rel, ha⟩
      · rw [upd_ne y] at z
        by_cases y2 : b = T
        · subst y2
          rw [upd_same] at z; cases z
          exact atT
        · rw [upd_ne y2] at z; cases z
/-- walkT for a law that asks for repr -/
theorem walkGT {l : PySem.W.OpenLaw} {n k : Nat} {q : Program} {loose : List Str} {XP : (Str → Option Value) → Heap → Prop} {YP : World → Heap → Prop} {d dr : DefRec} {K : Params → PySem.W.Frag} {N : List Str} {x xr qr : Str} {body : MS}
    (hn : l.most = some n) (hn2 : n ≤ sizeLine) (hdf : d.params.defaults = []) (hr : Room k callerA) (hY : ∀ (w : World) (h : Heap), YP w h → (K w.params).In h) (hrec : (recsOf q).find? (fun e => e.name == xr) = some dr)
    (F : ∀ (w : World) (mg : Str → Option Value) (fa : Addr) (h : Heap), (K w.params).In h → h.Ns mainGlobals mg → mg d.name = some (.ref fa) →
      ∃ c P, PySem.W.tabIn (K w.params) xr = some (c, P) ∧ (K w.params).lookup P = none ∧ ∃ fd : FuncData, (∀ (s : Shared) (u : Value), BindsTo s fd ⟨[u], []⟩ [(x, u)]) ∧
        ∀ i : HW, i.P = l.prog → i.w = w → i.T = [(P, qr)] → ∀ base : Heap, (K w.params).In base → base.Ns mainGlobals mg → LamX.TabB base mg c P → FnG l.prog w (K w.params) mg base k fa fd [x] (spM (K w.params) mg N [x] [] body))
    (hl : ∀ ns : List Int, ns.length ≤ n → ∃ s', callR N.length body [.d (.scr ns)] = some (.rd (.bl true) s')) :
    PySem.W.WalkO q loose XP YP l.row.toRowW d [] (fun f vs => PySem.call f vs) := by
  refine Att.attach_call hn hdf fun w s₀ s mg mb fa o pm cd doc a vs ns G Y ho hd hcd hmg hobj hints hlen hg => ?_
  have inK := hY w _ Y
  obtain ⟨c, P, ht, nP, fd, hb, hF⟩ := F w mg fa _ inK G.T.g hmg
  obtain ⟨code, empty⟩ := PySem.W.tab_of G.T inK hrec ht
  letI : HW := ⟨l.prog, w, [(P, qr)]⟩
  refine lawT inK G.T.g G.T.b G.T.builtins G.T.nolimit hg empty nP code G.T.bmain hobj hints (Nat.le_trans hlen hn2) hr (fun base h1 h2 h3 => hF ⟨l.prog, w, [(P, qr)]⟩ rfl rfl rfl base h1 h2 h3) hb fun H tP sq => ?_
  obtain ⟨s', e⟩ := hl ns hlen
  have st : St (K w.params) mg (startS N.length [.d (.scr ns)]) (L2.start N [.ref a]) H (unT H) := by
    refine ⟨⟨unT_nt, fun p hp => ?_, fun p hp => ?_⟩, unT_le, startS_len rfl rfl, fun i d h => ?_, fun i o h => ?_, fun i j o u b h => ?_⟩
    · have hp : p ∈ [(P, qr)] := hp
      simp only [List.mem_singleton] at hp; rw [hp]; exact unT_tbl tP
    · have hp : p ∈ [(P, qr)] := hp
      simp only [List.mem_singleton] at hp; rw [hp]; exact LamX.TabS.nil tP
    · have h := startS_get h
      cases i with
      | zero => cases h; exact ⟨_, start_get (N := N) (vs := [.ref a]) (i := 0) rfl, .scr (unT_sl sq)⟩
      | succ i => cases h
    · have h := startS_get h
      cases i with
      | zero => cases h
      | succ i => cases h
    · have h := startS_get h
      cases i with
      | zero => cases h
      | succ i => cases h
  exact ⟨rfl, _, unT H, _, st, e, fun v σ' H' W' _ _ _ r => by cases r; rfl⟩
end Fli
set_option Elab.async false
set_option linter.all false
set_option maxRecDepth 100000
set_option maxHeartbeats 4000000
namespace Fli
open PySem PySem.Spec PyProof.Rows L2

/-! the law's own call, several tables of code objects -/
end Fli
set_option Elab.async false
set_option linter.all false
set_option maxRecDepth 100000
set_option maxHeartbeats 4000000
/-! what raises within len(..), within a comparison, an attribute asked of what raises -/
namespace Fli
open PySem PySem.Spec PyProof.Rows L2
variable [HW]
section
variable {X : Cx} {a b e : Expr} {pos p : Pos} {r : R} {x : Str} {id : String}
theorem rx_bi1 (h : RX X e r) (hg : Gl X x) (hm : X.mg x = none) (hv : bootBuiltins x = some (.builtin id)) (hn : x ≠ "__name__" := by decide) (hdb : (x == ("__debug__" : Str)) = false := by decide)
    (he : starEach (e :: []) X.env = (false, eval e X.env) :: starEach [] X.env := by rfl) : RX X (.Call (.Name x p) [e] [] pos) r := fun Wi tk =>
  PE.imp (pe_callB (r := fun _ _ _ => False) (fun _ _ _ _ _ _ _ _ _ h => h.elim) hg hm hv (pa_cons (h Wi tk) pa_nil he) hn hdb he) fun _ _ _ q => q
end
end Fli
set_option Elab.async false
set_option linter.all false
set_option maxRecDepth 100000
set_option maxHeartbeats 4000000
namespace Fli
open PySem PySem.Spec PySem.Calls PyProof.Rows L2

/-! isinstance of an exception that has a dict -/
section
variable {prog : Program} {w : World} {A : Around} {E : Value → Shared → Prop} {s : Shared} {K : PySem.W.Frag} {a C : Addr} {oe od : Obj}
theorem class_of_exd {Q : Option Value → Shared → Prop} (T : ExcC K C) (inK : K.In s.heap) (I : PySem.W.InstAt s.heap a oe C (some od)) (h : Q (some (.ref C)) { s with toks := s.toks + 1 }) : wpAny (model prog w) A (getAttr? (.ref a) "__class__") Q E s := by
  have found : PySem.W.findObj K C (some od) "__class__" = some (.bind (.builtin "getset_descriptor.__get__") (.builtin "object.__class__")) := PySem.W.findObj_data (by obtain ⟨cd, hc, _⟩ := PySem.W.any_some T.hd; rw [hc]; rfl) T.ha T.hn T.ht
  obtain ⟨gp, gg, gd, gt, gos⟩ := s
  have a0 := I.type (M := model prog w)
  have a1 := PySem.W.looks_findIn (M := model prog w) inK T.hg
  have a2 := PySem.W.looks_findIn (M := model prog w) inK T.hk
  have a3 := PySem.W.looks_find (M := model prog w) inK I found
  have below : PySem.W.Looks (model prog w) gp (isInstance (.ref a) (.type "BaseException")) true := a0.andThen (PySem.W.looks_subIn inK T.hs)
  unfold getAttr? getAttrBy? getAttrBy
  refine wpAny_bind (wpAny_mkText (wpAny_bind (wpAny_attempt (wpAny_holding (wpAny_bind (a0.at (wpAny_bind (a1.at ?_))))))))
  have e2 : (Value.builtin "BaseException.__getattribute__" == Value.builtin "object.__getattribute__") = false := by decide +kernel
  dsimp only
  rw [if_neg (show ¬ (onTheHeap (Value.ref C) && Value.builtin "BaseException.__getattribute__" == Value.builtin "object.__getattribute__") = true by rw [e2]; simp)]
  unfold getAttrByItsOwn hookBefore
  refine wpAny_bind ?_
  rw [if_pos (show onTheHeap (Value.ref C) = true by rfl)]
  refine a2.at (wpAny_bind (wpAny_attempt (wpAny_holding ?_)))
  unfold callGetattribute
  rw [if_neg (show ¬ (false && onTheHeap (Value.builtin "BaseException.__getattribute__")) = true by simp)]
  unfold boundAndCalled
  rw [PySem.F.excAttr_ValueError.ga.bind (.ref a)]
  refine wpAny_bind (wpAny_pure ?_)
  show wpAny _ _ (call (.builtin "BaseException.__getattribute__") [.ref a, .str "__class__" gt]) _ _ _
  refine wpAny_call (codeAny_call_builtin PySem.F.excAttr_ValueError.ga.plain PySem.F.entry_bexc_ga (@PySem.W.check_slot (model prog w) _ _ ⟨gp, gg, gd, gt + 1, gos⟩ "BaseException.__getattribute__" "BaseException" "__getattribute__" (.ref a) [.str "__class__" gt] [] _ (by decide +kernel) (by decide +kernel) below (PySem.F.args_bexc_ga (.ref a) (.str "__class__" gt)) ?_))
  unfold Builtin.«object.__getattribute__»
  refine wpAny_bind (wpAny_of_eq (a := ((Value.ref a : Value), [Value.str "__class__" gt])) (by first | rfl | (simp only [slotArgs]; rfl)) (wpAny_bind (wpAny_pure (wpAny_bind (a0.at (wpAny_bind (a3.at ?_)))))))
  show wpAny _ _ (holding [Value.builtin "object.__class__"] (call (.builtin "getset_descriptor.__get__") [.builtin "object.__class__", .ref a, .ref C]) >>= ret) _ _ _
  refine wpAny_bind (wpAny_holding (wpAny_call (PySem.W.class_get (s := ⟨gp, gg, gd, gt + 1, gos⟩) (ox := oe) (od := some od) inK I T.hm (wpAny_pure ?_))))
  show wpAny _ _ (handedOut (.ref C)) _ _ _
  rw [PySem.W.handedOut_of (v := .ref C) rfl]
  first
  | exact wpAny_pure (wpAny_pure h)
  | exact wpAny_pure h
theorem kitx_exd (T : ExcC K C) : PySem.W.KitX K (.ref a) (.ref C) (fun g => PySem.W.InstAt g a oe C (some od)) where
  ty := fun _ _ _ I => I.type
  it := fun _ _ inK _ => by
    obtain ⟨cd, hc, _⟩ := PySem.W.any_some T.hd
    unfold PySem.W.clsIn at hc
    split at hc
    · rename_i hob
      intro A1 Q1 E1 s1 kp q
      unfold isType loadHead
      exact wpAny_bind (wpAny_loadPart (kp _ _ (inK _ _ hob)) (wpAny_pure q))
    · cases hc
  ne := fun g tp dd its n sl inK atp => by
    obtain ⟨cd, hc, _⟩ := PySem.W.any_some T.hd
    unfold PySem.W.clsIn at hc
    refine Bool.eq_false_iff.mpr fun q => ?_
    obtain rfl : C = tp := Value.ref.inj (beq_iff_eq.mp q)
    split at hc
    · rename_i hob
      cases (inK _ _ hob).symm.trans atp
    · cases hc
  ca := fun inK I k => class_of_exd T inK I k
end
section
variable {X : Cx} {a C dx : Addr} {oe : Obj}
/-- isinstance of the exception that is held, its dict tracked -/
theorem call_isPd (hin : (a, oe) ∈ X.pn) (T : ExcC X.K C) (hz : Zc (.ref C) (some dx) oe) (hf : ∃ us, oe.data = .fields us) : CallR X (.builtin "isinstance") (fun xs H Q => ∃ (gs : List (Str × V)) (y : V) (yv : Value) (b : Bool), H dx = some (.xd gs) ∧ xs = [.ref a, y] ∧ (∀ u, RelV y u → u = yv) ∧ PySem.W.kitOne X.K (.ref C) yv = some b ∧ Q (.bl b) H) := by
  intro pins s σ H xs us Q I r h
  obtain ⟨gs, y, yv, b, hd, rfl, hy, eb, q⟩ := h
  obtain ⟨mA, ns, _⟩ := I.hok dx _ hd
  obtain ⟨od, es, ep, e1, _⟩ := ns
  cases r with
  | cons r1 r =>
    cases r with
    | cons r2 r =>
      cases r
      cases r1
      cases hy _ r2
      have at_ := (I.pin (a, oe) (List.mem_append_left _ hin)).1
      have J : PySem.W.InstAt s.heap a oe C (some od) := by
        obtain ⟨us', hus⟩ := hf
        obtain ⟨ocl, odi, oda, osl⟩ := oe
        obtain ⟨w1, w2⟩ := hz
        dsimp only at w1 w2 hus
        subst w1 w2 hus
        exact ⟨at_, rfl, rfl, e1⟩
      exact PySem.W.kia_one (kitx_exd T) I.kIn J eb (fun z => nomatch z) fun tk => ⟨.bl b, H, I.kept (t' := tk) fun _ _ z => z, rfl, q⟩
end
end Fli
set_option Elab.async false
set_option linter.all false
set_option maxRecDepth 100000
set_option maxHeartbeats 4000000
namespace Fli
open PySem PySem.Spec PyProof.Rows L2
variable [HW]

/-! continue -/
/-! a def that makes lambdas, called where no repr is under way -/
section
variable {P : Program} {w : World} {K : PySem.W.Frag} {mg : Str → Option Value} {base : Heap}
theorem g_okC {x : Str} {st : Stmt} {f c : Addr} {fd : FuncData} {N ps : List Str} {k : Nat} {pr : List Nat} {body : MS} (F : FunC K x st f fd c) (Sc : FnScope N ps (defScope st))
    (hb : ∀ (A : Around) (outer : List Env) (s : Shared) (H : Hp) (E : XK), A.guards = some [] → Room k (A.deeper (PyProof.Rows.envOfC x (defScope st) s.heap.objs.size f (.ref c))) →
      SEs (cxOf CX0 P w K mg base N x (defScope st) f (.ref c) A outer s H E).nox pr (defBody st) body) : FnG P w K mg base (k + 1) f fd ps (spM K mg N ps pr body) := by
  obtain ⟨oc, od, kV, doc, pm, an, ct, osl, rfl, lk, hcd, _⟩ := F
  refine ⟨fun h => h.1, fun {A outer s H args us vs Q E} hg hr env bind rel prom => ?_⟩
  have keeps := fun b o q => (env.bs b o q).1
  have inK : K.In s.heap := env.mod.kin.keeps keeps
  refine codeAny_call_function hr.depth (inK _ _ lk) rfl Sc.co Sc.gen rfl (PySem.W.codeRec_of inK hcd) (bind _ _ _ _ ?_)
  refine wpAny_newFunctionEnv_cells Sc.kind (fun y hy => (Sc.par y.1 (List.of_mem_zip (show (y.1, y.2) ∈ ps.zip us from hy)).1).imp id fun z => ⟨z, PySem.W.cellsFrom_some _ _ _ (.inl z)⟩) fun env' he s1 x1 => ?_
  subst he
  refine ⟨(env.mod.nolimit.keeps keeps).keeps x1.toInCall.keep, codeAny_func ?_⟩
  have inv : Inv (cxOf CX0 P w K mg base N x (defScope st) f (.ref c) A outer s H E) [] (L2.start N vs) H s1 := inv_start Sc hr.hd env prom.1 rel x1
  refine wpAny_mono ((hb A outer s H E hg (hr.deeper _)).nox.run [] s1 (L2.start N vs) H _ inv prom.2) (fun fl s' z => ?_) fun _ _ z => z
  match fl, z with
  | .next, ⟨a, b, J, q⟩ => exact ⟨.non, b, J.os, J.bare, J.base, J.hok, rfl, q⟩
  | .ret u, ⟨v, a, b, J, r, q⟩ => exact ⟨v, b, J.os, J.bare, J.base, J.hok, r, q⟩
  | .brk, ⟨_, _, _, q⟩ => exact q.elim
  | .cont, ⟨_, _, _, q⟩ => exact q.elim
theorem FunC.defG {x : Str} {st : Stmt} {f c : Addr} {fd : FuncData} {k : Nat} {N ps : List Str} {pr : List Nat} {body : MS} (F : FunC K x st f fd c) (hm : mg x = some (.ref f)) (ok : FnG P w K mg base k f fd ps (spM K mg N ps pr body)) (b : BindsLike x x st ps) : DefG P w K mg base k x N ps pr body :=
  ⟨f, fd, ok, hm, F.kp, F.binds b⟩
/-! a def that raises, called by keywords alone -/
end
section
variable {X : Cx} {k n : Nat} {N ps ks : List Str} {idx : List Nat} {r : R} {x : Str} {p po : Pos} {kws : List Keyword} {ms : M (List D)}
end
end Fli
set_option Elab.async false
set_option linter.all false
set_option maxRecDepth 100000
set_option maxHeartbeats 4000000
/-! len(set(texts)), as many texts as there are -/
namespace Fli
open PySem PySem.Spec PyProof.Rows
section
variable {prog : Program} {w : World} {A : Around} {R : Result → Shared → Prop} {I : Addr} {fp wr : List Addr} {G : Array GenState → Array GenState → Prop} {n : Nat} {P : Nat → Value → Prop} {St : Nat → Shared → Prop}
end
section
variable {prog : Program} {w : World} {A : Around} {E : Value → Shared → Prop} {s : Shared}
end
end Fli
set_option Elab.async false
set_option linter.all false
set_option maxRecDepth 100000
set_option maxHeartbeats 4000000
namespace Fli
open PySem PySem.Spec PyProof.Rows L2
variable [HW]

/-! len(set(x)), x a list of texts -/
section
variable {X : Cx} {a : Expr} {p p2 q pos : Pos} {m : M D}
end
end Fli
set_option Elab.async false
set_option linter.all false
set_option maxRecDepth 100000
set_option maxHeartbeats 4000000
namespace Fli
open PySem PySem.Spec PyProof.Rows L2
variable [HW]

/-! repr of any one value: also of None, of truth values, of numbers, of texts, of an empty dict -/
def rReprX (K : PySem.W.Frag) : List V → Hp → VK → Prop := fun xs H Q =>
  (xs = [.non] ∧ Q (.str "None") H) ∨ (∃ b, xs = [.bl b] ∧ Q (.str (if b = true then "True" else "False")) H) ∨ (∃ i, xs = [.int i] ∧ i.natAbs.log2 < 1920 ∧ Q (.str (toString i)) H) ∨
  (∃ z, xs = [.str z] ∧ (reprText z).length ≤ sizeLine ∧ Q (.str (reprText z)) H) ∨ (∃ a, xs = [.ref a] ∧ Rd H a (.dK []) ∧ Q (.str "{}") H) ∨ rRepr K xs H Q
section
variable {X : Cx}
theorem call_reprX (gd : X.A.guards = some []) (hu : X.A.units + 66 < cLine) : CallR X (.builtin "repr") (rReprX X.K) := by
  intro pins s σ H xs us Q I r h
  rcases h with ⟨rfl, q⟩ | ⟨b, rfl, q⟩ | ⟨i, rfl, hz, q⟩ | ⟨z, rfl, hz, q⟩ | ⟨a, rfl, ha, q⟩ | h
  · obtain ⟨u, rfl, ru⟩ := vals1 r
    obtain rfl : u = Value.none := ru
    exact PySem.P.repr_of_none ⟨.str "None", H, I.tok _, ⟨_, rfl⟩, q⟩
  · obtain ⟨u, rfl, ru⟩ := vals1 r
    obtain rfl : u = Value.bool b := ru
    exact PySem.P.repr_of_bool ⟨.str (if b = true then "True" else "False"), H, I.tok _, ⟨_, by cases b <;> rfl⟩, q⟩
  · obtain ⟨u, rfl, t, rfl⟩ := vals1 r
    exact PySem.P.repr_of_int hz ⟨.str _, H, I.tok _, ⟨_, rfl⟩, q⟩
  · obtain ⟨u, rfl, t, rfl⟩ := vals1 r
    exact PySem.P.repr_of_str ⟨.str _, H, I.tok _, ⟨_, rfl⟩, q⟩ hz
  · obtain ⟨u, rfl, ru⟩ := vals1 r
    obtain rfl : u = Value.ref a := ru
    obtain ⟨_, hs, vs, kv, o, es, ep, ho, hc, hd, _, pr, _⟩ := dk_rd I.hok ha
    have e0 : es = #[] := by
      cases kv
      have := pr.length
      exact Array.toList_inj.mp (by simpa using this)
    subst e0
    have rd : Reads s.heap (.ref a) (.dict []) [a] := .dict (as := []) (bs := []) ho hc.1 hd .nil .nil
    refine repr_of_reads' rd rfl (fun _ m => absurd (List.mem_singleton.mp m) (fun z => by rw [← z] at hs; simp at hs)) gd (by show X.A.units + (_ + 1) < cLine; simp only [PyData.depth]; simp only [PyData.depthKv]; omega) (fun _ _ e => e) (fun h' u tk hk => ?_) (by decide)
    exact ⟨.str "{}", H, I.kept hk, ⟨_, rfl⟩, q⟩
  · exact call_repr gd hu pins s σ H xs us Q I r h
end
def reprX : List D → Option D
  | [.non] => some (.str "None")
  | [.bl b] => some (.str (if b = true then "True" else "False"))
  | [.int i] => if i.natAbs.log2 < 1920 then some (.str (toString i)) else none
  | [.str z] => if (reprText z).length ≤ sizeLine then some (.str (reprText z)) else none
  | [.dic []] => some (.str "{}")
  | ds => reprD ds
theorem cd_reprX {K : PySem.W.Frag} {mg : Str → Option Value} : C1D K mg (rReprX K) reprX := C1D.of fun xs z vs H W le hx hf Q q => by
  unfold reprX at hf
  split at hf
  · cases hf
    cases hx with
    | cons h1 h2 => cases h2; cases h1; exact .inl ⟨rfl, q _ (.str _)⟩
  · cases hf
    cases hx with
    | cons h1 h2 => cases h2; cases h1; exact .inr (.inl ⟨_, rfl, q _ (.str _)⟩)
  · split at hf
    · rename_i hz
      cases hf
      cases hx with
      | cons h1 h2 => cases h2; cases h1; exact .inr (.inr (.inl ⟨_, rfl, hz, q _ (.str _)⟩))
    · cases hf
  · split at hf
    · rename_i hz
      cases hf
      cases hx with
      | cons h1 h2 => cases h2; cases h1; exact .inr (.inr (.inr (.inl ⟨_, rfl, hz, q _ (.str _)⟩)))
    · cases hf
  · cases hf
    cases hx with
    | cons h1 h2 =>
      cases h2
      cases h1 with
      | dic hW hr => cases hr; exact .inr (.inr (.inr (.inr (.inl ⟨_, rfl, hW.imp (le _ _) (fun ⟨o, z⟩ => ⟨o, le _ _ z⟩), q _ (.str _)⟩))))
  · refine .inr (.inr (.inr (.inr (.inr ?_))))
    unfold reprD at hf
    split at hf
    · obtain ⟨p, hp, hf⟩ := Option.bind_eq_some_iff.mp hf
      split at hf
      · rename_i h
        cases hf
        cases hx with
        | cons h1 h2 => cases h2; exact ⟨_, p, rfl, toDp le h1 hp, h.1, h.2.1, h.2.2.1, h.2.2.2.1, h.2.2.2.2, q _ (.str _)⟩
      · cases hf
    · cases hf
end Fli
set_option Elab.async false
set_option linter.all false
set_option maxRecDepth 100000
set_option maxHeartbeats 4000000
namespace Fli
open PySem PySem.Spec PyProof.Rows L2
variable [HW]

/-! defs that are called with an exception that may have a field -/
/-- p's object is the exception x, d its dict -/
def GoodE (K : PySem.W.Frag) (mg : Str → Option Value) (x : Str) (d : Option Addr) (p : Addr × Obj) : Prop := ∃ C, mg x = some (.ref C) ∧ ExcC K C ∧ Zc (.ref C) d p.2 ∧ ∃ us, p.2.data = .fields us
structure FnE (P : Program) (w : World) (K : PySem.W.Frag) (mg : Str → Option Value) (base : Heap) (k : Nat) (f : Addr) (fd : FuncData) (ps : List Str) (x : Str) (d : Option Addr) (sp : Addr → Sp) : Prop where
  len : ∀ {a vs H Q E}, sp a vs H Q E → vs.length = ps.length
  run : ∀ {A : Around} {outer : List Env} {s : Shared} {H : Hp} {args : Args} {us : List Value} {vs : List V} {Q : VK} {E : XK} {p : Addr × Obj}, A.guards = some [] → L2H.RoomH k A → GoodE K mg x d p → L2H.PinOk outer H s p →
    Env0 P w K mg base A outer s H → BindsTo s fd args (ps.zip us) → Vals vs us → sp p.1 vs H Q E → codeAny (model P w) A (.call (.ref f) args) (CR CX0 outer P w H s Q E) s
section
variable {P : Program} {w : World} {K : PySem.W.Frag} {mg : Str → Option Value} {base : Heap}
theorem fnE_ok {x qual : Str} {st : Stmt} {f : Addr} {fd : FuncData} {N ps : List Str} {k : Nat} {pr : List Nat} {c : Str} {d : Option Addr} {body : Addr → MS} (F : Fun K x qual st f fd) (Sc : FnScope N ps (defScope st))
    (hb : ∀ (cdv : Value) (A : Around) (outer : List Env) (s : Shared) (H : Hp) (E : XK) (p : Addr × Obj), A.guards = some [] → GoodE K mg c d p → L2H.RoomH k (A.deeper (PyProof.Rows.envOfC qual (defScope st) s.heap.objs.size f cdv)) →
      SEs (L2H.cxH CX0 P w K mg base N qual (defScope st) f cdv A outer s H E p).nox pr (defBody st) (body p.1)) :
    FnE P w K mg base (k + 1) f fd ps c d fun a => spM K mg N ps pr (body a) := by
  obtain ⟨oc, od, kV, doc, pm, an, cdv, ct, osl, rfl, lk, hcd⟩ := F.ex
  refine ⟨fun h => h.1, fun {A outer s H args us vs Q E p} gd hr hgood hpin env bind rel prom => ?_⟩
  have keeps := fun b o q => (env.bs b o q).1
  have inK : K.In s.heap := env.mod.kin.keeps keeps
  refine codeAny_call_function hr.depth (inK _ _ lk) rfl Sc.co Sc.gen rfl (PySem.W.codeRec_of inK hcd) (bind _ _ _ _ ?_)
  refine wpAny_newFunctionEnv_cells Sc.kind (fun y hy => (Sc.par y.1 (List.of_mem_zip (show (y.1, y.2) ∈ ps.zip us from hy)).1).imp id fun z => ⟨z, PySem.W.cellsFrom_some _ _ _ (.inl z)⟩) fun env' he s1 z => ?_
  subst he
  refine ⟨(env.mod.nolimit.keeps keeps).keeps z.toInCall.keep, codeAny_func ?_⟩
  have go := (show SEs (L2H.cxH CX0 P w K mg base N qual (defScope st) f cdv A outer s H E p) pr (defBody st) (body p.1) from (hb cdv A outer s H E p gd hgood (hr.deeper _)).nox)
  refine wpAny_mono (go.run [] s1 (L2.start N vs) H _ (L2H.inv_startH Sc hpin env prom.1 rel z) prom.2) (fun fl t y => ?_) fun _ _ y => y
  match fl, y with
  | .next, ⟨τ, G, J, q⟩ => exact ⟨.non, G, J.os, J.bare, J.base, J.hok, rfl, q⟩
  | .ret u, ⟨v, τ, G, J, r, q⟩ => exact ⟨v, G, J.os, J.bare, J.base, J.hok, r, q⟩
  | .brk, ⟨_, _, _, q⟩ => exact q.elim
  | .cont, ⟨_, _, _, q⟩ => exact q.elim
theorem FnE.mono {k j : Nat} {f : Addr} {fd : FuncData} {ps : List Str} {x : Str} {d : Option Addr} {sp : Addr → Sp} (F : FnE P w K mg base j f fd ps x d sp) (h : j ≤ k) : FnE P w K mg base k f fd ps x d sp :=
  ⟨F.len, fun gd hr => F.run gd (hr.mono h)⟩
end
/-- isinstance(the exception, ..) -/
def isPX (t : Option Bool) (a : Addr) (d : Option Addr) : D → Option D
  | .ptr b => if b = a ∧ d = none then t.map .bl else none
  | .exc b dx _ => if b = a ∧ d = some dx then t.map .bl else none
  | _ => none
/-- a field of it -/
def fldE (hv : Bool) (a : Addr) (d : Option Addr) (f : Str) : D → Option D
  | .exc b dx fs => if hv = true ∧ b = a ∧ d = some dx then fs.lookup f else none
  | _ => none
def NoF (K : PySem.W.Frag) (mg : Str → Option Value) (c f : Str) (hv : Bool) : Prop := hv = true → ∀ C, mg c = some (.ref C) → PySem.W.findIn K (.ref C) f = some none
section
variable {X : Cx} {k i : Nat} {f a : Addr} {fd : FuncData} {ps N : List Str} {x c tn fl : Str} {p pos p2 apos : Pos} {e : Expr} {sp : Addr → Sp} {ta : TE} {oe : Obj} {d : Option Addr} {m : M D} {t : Option Bool} {hv : Bool}
theorem pe_callE (F : FnE X.prog X.w X.K X.mg X.base k f fd ps c d sp) (gd : X.A.guards = some []) (hr : L2H.RoomH k X.A) (hin : (a, oe) ∈ X.pn) (good : GoodE X.K X.mg c d (a, oe)) (hg : Gl X x) (hm : X.mg x = some (.ref f)) (hk : PySem.W.keepIn X.K (.ref f) = true) (hb : Binds X.K fd ps [])
    (ha : PE X e ta) (hdb : (x == ("__debug__" : Str)) = false := by decide) (he : starEach [e] X.env = (false, eval e X.env) :: starEach [] X.env := by rfl) (hpl : (backTo pos (starEach [] X.env)).any (·.1) = false := by rfl) :
    PE X (.Call (.Name x p) [e] [] pos) (fun σ H Q => ta σ H fun v H1 => sp a [v] H1 Q fun _ _ _ => False) := by
  constructor
  intro pins s σ H Q I h
  refine wpAny_Call_Name_kw (ld_glob I hg hm ?_ hdb)
  have arg := (pa_cons ha pa_nil he).run pos pins s σ H (fun vs H1 => sp a vs H1 Q fun _ _ _ => False) I (show tCons ta tNil σ H _ from h)
  refine PySem.W.callWith_K (h₀ := X.base) I.ok.mod.kin hk (thn arg fun us s1 ⟨vs, H1, I1, r, q⟩ => ⟨I1.kIn, ?_⟩) he hpl
  have P1 := I1.pin (a, oe) (List.mem_append_left _ hin)
  have b := hb s1 us I1.kIn (by rw [List.append_nil, ← r.length]; exact F.len q)
  rw [List.append_nil] at b
  refine wpAny_call (codeAny_mono (F.run gd hr good ⟨P1.1, P1.2.1, fun hm => (List.mem_cons.mp (I1.stkSub a hm)).elim P1.2.2.1 P1.2.2.2.1, P1.2.2.2.2⟩ I1.env0 b r q) fun y t hq => ?_)
  match y, hq with
  | .error _, hq => exact hq.elim
  | .ok (.ret u), hq => exact I1.after hq
  | .ok .next, hq => exact hq.elim
  | .ok .brk, hq => exact hq.elim
  | .ok .cont, hq => exact hq.elim
/-- isinstance of the exception that is held, with or without a dict -/
theorem call_isE2 (hin : (a, oe) ∈ X.pn) (good : GoodE X.K X.mg c d (a, oe)) : CallR X (.builtin "isinstance") (fun xs H Q => ∃ (C : Addr) (y : V) (yv : Value) (b : Bool), X.mg c = some (.ref C) ∧ (∀ dx, d = some dx → ∃ gs, H dx = some (.xd gs)) ∧ xs = [.ref a, y] ∧ (∀ u, RelV y u → u = yv) ∧ PySem.W.kitOne X.K (.ref C) yv = some b ∧ Q (.bl b) H) := by
  intro pins s σ H xs us Q I r h
  obtain ⟨C, y, yv, b, hC, hd, rfl, hy, eb, q⟩ := h
  obtain ⟨C', hC', T, hz, hf⟩ := id good
  rw [hC] at hC'
  cases hC'
  cases d with
  | none => exact call_isP hin (c := c) ⟨C, hC, T, hz, hf⟩ pins s σ H _ us Q I r ⟨C, y, yv, b, hC, rfl, hy, eb, q⟩
  | some dx =>
    obtain ⟨gs, hgs⟩ := hd dx rfl
    exact call_isPd hin T hz hf pins s σ H _ us Q I r ⟨gs, y, yv, b, hgs, rfl, hy, eb, q⟩
theorem isPX_some {z D : Fli.D} (h : isPX t a d z = some D) : ∃ b, t = some b := by
  cases t with
  | none =>
    unfold isPX at h
    split at h
    · split at h <;> cases h
    · split at h <;> cases h
    · cases h
  | some b => exact ⟨b, rfl⟩
theorem e_isPX {C : Addr} {y : V} {yv : Value} {b : Bool} (hin : (a, oe) ∈ X.pn) (good : GoodE X.K X.mg c d (a, oe)) (hC : X.mg c = some (.ref C)) (hk : PySem.W.kitOne X.K (.ref C) yv = some b) (hy : ∀ u, RelV y u → u = yv) (h : DE X e m) (hg : Gl X "isinstance") (hm : X.mg "isinstance" = none) (ht : PE X (.Name tn p2) (tC y))
    (he : starEach [e, .Name tn p2] X.env = (false, eval e X.env) :: starEach [.Name tn p2] X.env := by rfl) (he2 : starEach [.Name tn p2] X.env = (false, eval (.Name tn p2) X.env) :: starEach [] X.env := by rfl) (hpl : (backTo pos (starEach [.Name tn p2] X.env)).any (·.1) = false := by rfl) :
    DE X (.Call (.Name "isinstance" p) [e, .Name tn p2] [] pos) (bindM m fun z => optM (isPX (some b) a d z)) := PE.imp (pe_callB (call_isE2 hin good) hg hm (by decide +kernel) (pa_cons h (pa_cons ht pa_nil he2) he) (by decide) (by decide) he hpl) fun σ H Q ⟨sd, W, z0, sd', st, em, q⟩ => by
  obtain ⟨d0, s0, e0, em⟩ := bindM_some em
  obtain ⟨e2, rfl⟩ := optM_some em
  refine ⟨sd, W, d0, sd', st, e0, fun v H1 W1 st1 k1 r => ?_⟩
  unfold isPX at e2
  split at e2
  · split at e2
    · rename_i hb
      obtain ⟨rfl, rfl⟩ := hb
      cases e2
      cases r
      exact ⟨C, y, yv, b, hC, fun _ z => (nomatch z), rfl, hy, hk, q _ H1 W1 st1 k1 (.bl b)⟩
    · cases e2
  · split at e2
    · rename_i hb
      obtain ⟨rfl, rfl⟩ := hb
      cases e2
      cases r with
      | exc hW _ => exact ⟨C, y, yv, b, hC, fun dx z => by cases z; exact ⟨_, st1.le _ _ hW⟩, rfl, hy, hk, q _ H1 W1 st1 k1 (.bl b)⟩
    · cases e2
  · cases e2
theorem e_isOX (hin : (a, oe) ∈ X.pn) (good : GoodE X.K X.mg c d (a, oe)) (hk : IsO X.K X.mg c tn t) (h : DE X e m) (hg : Gl X "isinstance") (hm : X.mg "isinstance" = none) (hgx : Gl X tn) (hdb : (tn == ("__debug__" : Str)) = false := by decide)
    (he : starEach [e, .Name tn p2] X.env = (false, eval e X.env) :: starEach [.Name tn p2] X.env := by rfl) (he2 : starEach [.Name tn p2] X.env = (false, eval (.Name tn p2) X.env) :: starEach [] X.env := by rfl) (hpl : (backTo pos (starEach [.Name tn p2] X.env)).any (·.1) = false := by rfl) :
    DE X (.Call (.Name "isinstance" p) [e, .Name tn p2] [] pos) (bindM m fun z => optM (isPX t a d z)) := by
  obtain ⟨A, hA, hk⟩ := hk
  obtain ⟨C, hC, _⟩ := id good
  cases t with
  | some b => exact e_isPX hin good hC (hk C b hC rfl) (y := .ref A) (yv := .ref A) (fun u r => r) h hg hm (pe_glob hgx hA rfl hdb) he he2 hpl
  | none =>
    refine PE.imp pe_never fun σ H Q ⟨sd, W, z, sd', st, em, q⟩ => ?_
    obtain ⟨d0, s0, e0, em⟩ := bindM_some em
    obtain ⟨b, hb⟩ := isPX_some (optM_some em).1
    cases hb
theorem e_isTX {T : String} (hin : (a, oe) ∈ X.pn) (good : GoodE X.K X.mg c d (a, oe)) (hk : IsT X.K X.mg c tn T t) (hv : bootBuiltins tn = some (.type T)) (h : DE X e m) (hg : Gl X "isinstance") (hm : X.mg "isinstance" = none) (hgx : Gl X tn) (hnn : tn ≠ "__name__" := by decide) (hdb : (tn == ("__debug__" : Str)) = false := by decide)
    (he : starEach [e, .Name tn p2] X.env = (false, eval e X.env) :: starEach [.Name tn p2] X.env := by rfl) (he2 : starEach [.Name tn p2] X.env = (false, eval (.Name tn p2) X.env) :: starEach [] X.env := by rfl) (hpl : (backTo pos (starEach [.Name tn p2] X.env)).any (·.1) = false := by rfl) :
    DE X (.Call (.Name "isinstance" p) [e, .Name tn p2] [] pos) (bindM m fun z => optM (isPX t a d z)) := by
  obtain ⟨hn, hk⟩ := hk
  obtain ⟨C, hC, _⟩ := id good
  cases t with
  | some b => exact e_isPX hin good hC (hk C b hC rfl) (y := .ty T) (yv := .type T) (fun u r => r) h hg hm (pe_bltn hgx hn hv rfl hnn hdb) he he2 hpl
  | none =>
    refine PE.imp pe_never fun σ H Q ⟨sd, W, z, sd', st, em, q⟩ => ?_
    obtain ⟨d0, s0, e0, em⟩ := bindM_some em
    obtain ⟨b, hb⟩ := isPX_some (optM_some em).1
    cases hb
/-- a field of the exception -/
theorem e_fldE (hin : (a, oe) ∈ X.pn) (good : GoodE X.K X.mg c d (a, oe)) (hno : NoF X.K X.mg c fl hv) (h : DE X e m) (hb : attributeBase e fl X.env (eval e X.env) = eval e X.env := by rfl) :
    DE X (.Attribute e fl apos) (bindM m fun z => optM (fldE hv a d fl z)) := by
  refine ⟨fun pins s σ H Q I ⟨sd, W, z, sd', st, em, q⟩ => ?_⟩
  obtain ⟨d0, s0, e0, em⟩ := bindM_some em
  obtain ⟨e2, rfl⟩ := optM_some em
  refine attr_of hb (thn (h.run pins s σ H (fun v H1 => ∃ W1, St X.K X.mg sd' σ H1 W1 ∧ Kp sd σ H W sd' σ H1 W1 ∧ DR X.K X.mg W1 v d0) I ⟨sd, W, d0, sd', st, e0, fun v H1 W1 st1 k1 r1 => ⟨W1, st1, k1, r1⟩⟩) ?_)
  rintro u s1 ⟨v, H1, I1, ru, W1, st1, k1, r1⟩
  unfold fldE at e2
  split at e2
  · split at e2
    · rename_i hb
      obtain ⟨hv1, eb, rfl⟩ := hb
      cases r1 with
      | exc hW rf =>
        rename_i gs
        obtain ⟨y, hl, ry⟩ := rf.look e2
        cases ru
        subst eb
        obtain ⟨C, hC, T, hz, vs, hd⟩ := good
        obtain ⟨mA, hns, hr⟩ := (show ObjOk X.prog X.w H1 s1.heap _ (.xd gs) from I1.hok _ _ (st1.le _ _ hW))
        obtain ⟨od, ho, hlk⟩ := lookIn_ns hns
        obtain ⟨uv, hu, ruv⟩ := RelO.some_of (v := y) (o := mA fl) (by rw [← hl]; exact hr fl)
        have J : PySem.W.InstAt s1.heap _ oe C (some od) := ⟨(I1.pin (_, oe) (List.mem_append_left _ hin)).1, hz.1, by unfold PySem.W.notCls; rw [hd] <;> rfl, by rw [hz.2]; exact ho⟩
        exact HandSPX.exc_get I1.kIn J T.hg T.hk T.hs (PySem.W.findObj_own T.hd (hno hv1 C hC) rfl (by rw [hlk, hu])) (handed_of ruv) ⟨y, H1, I1.tok _, ruv, q y H1 W1 st1 k1 ry⟩
    · cases e2
  · cases e2
end
end Fli
set_option Elab.async false
set_option linter.all false
set_option maxRecDepth 100000
set_option maxHeartbeats 4000000
namespace Fli
open PySem PySem.Spec PyProof.Rows L2
variable [HW]

/-! answers, the exceptions having fields or none -/
def TTansE (K : PySem.W.Frag) (mg : Str → Option Value) (c1 c2 c3 : Value) (Ns : List Str) (ok : Exn → Bool) (body : Exn → Option Addr → Addr → MS) : (XK → Hp → VK → Prop) → Hp → VK → Prop := fun tl H Q =>
  tl (fun cls d H' => ∃ x C, ok x = true ∧ cls = .ref C ∧ mg x.c = some (.ref C) ∧ PySem.W.exmAny K cls [c1, c2, c3] = some true ∧ ∀ a, H' a = none → tM K mg [] (body x d a) (endsOf Q) (L2.start Ns [.ref a]) H') H
    fun v H' => ∀ a, H' a = none → Q (.ref a) (upd H' a (.lst [.str "returned", v]))
section
variable {X : Cx} {Ng Ns ps : List Str} {x a q got en sn x1 x2 x3 : Str} {sg : Scope} {g fs : Addr} {fds : FuncData} {cdg : Value} {i j k kk kz : Nat} {c1 c2 c3 : Value} {ok : Exn → Bool} {body : Exn → Option Addr → Addr → MS} {p1 p2 p3 p4 p5 p6 p7 p8 p9 q1 q2 q3 q4 q5 q6 q7 q8 q9 : Pos}
theorem ans_givesE (gd : X.A.guards = some []) (hr : Room (k + 1) X.A) (nd : Ng.Nodup) (h0 : Ng[0]? = some a) (hi : Ng[i]? = some got) (hj : Ng[j]? = some en) (li : sg.names.lookup got = some .local) (lj : sg.names.lookup en = some .local)
    (g1 : sg.names.lookup x1 = some .globalImplicit) (g2 : sg.names.lookup x2 = some .globalImplicit) (g3 : sg.names.lookup x3 = some .globalImplicit) (g4 : sg.names.lookup sn = some .globalImplicit)
    (m1 : X.mg x1 = some c1) (m2 : X.mg x2 = some c2) (m3 : X.mg x3 = some c3) (m4 : X.mg sn = some (.ref fs)) (hk : PySem.W.keepIn X.K (.ref fs) = true) (hb : Binds X.K fds ps [])
    (FP : ∀ y d, ok y = true → FnE X.prog X.w X.K X.mg X.base k fs fds ps y.c d fun b => spM X.K X.mg Ns ps [] (body y d b)) (hps : ps.length = 1) (T : ∀ y C, ok y = true → X.mg y.c = some (.ref C) → ExcC X.K C)
    (d1 : (x1 == ("__debug__" : Str)) = false := by decide) (d2 : (x2 == ("__debug__" : Str)) = false := by decide) (d3 : (x3 == ("__debug__" : Str)) = false := by decide) (d4 : (sn == ("__debug__" : Str)) = false := by decide)
    (d5 : (got == ("__debug__" : Str)) = false := by decide) (d6 : (got == ("__classdict__" : Str)) = false := by decide) (d7 : (en == ("__debug__" : Str)) = false := by decide) (d8 : (en == ("__classdict__" : Str)) = false := by decide) :
    LamX.GivesTo X Ng x sg g cdg [.Try [.Assign [.Name got q1] (.Call (.Name a p1) [] [] p2) p3]
      [.ExceptHandler (some (.Tuple [.Name x1 p4, .Name x2 p5, .Name x3 p6] kk p7)) (some en) [.Return (some (.Call (.Name sn q2) [.Name en q3] [] q4)) q5] p8] [] [] p9, .Return (some (.List [.Constant (.str "returned") kz q6, .Name got q7] q8)) q9] a q (TTansE X.K X.mg c1 c2 c3 Ns ok body) := by
  intro f c' s H Q tl act hc h
  let Z := (cxOf C8.CX0 X.prog X.w X.K X.mg X.base Ng x sg g cdg X.A X.stack s H C8.E0).nox
  have gl : ∀ {y : Str}, sg.names.lookup y = some .globalImplicit → Gl Z y := fun e => e
  have lc : ∀ {y : Str}, sg.names.lookup y = some .local → Z.env.kindOf y = some .local := fun e => e
  have h1 : 0 < Ng.length := (List.getElem?_eq_some_iff.mp h0).1
  have jlt : j < Ng.length := (List.getElem?_eq_some_iff.mp hj).1
  have ilt : i < Ng.length := (List.getElem?_eq_some_iff.mp hi).1
  have lenN : (L2.start Ng [V.ref f]).length = Ng.length := by
    unfold L2.start
    simp
    omega
  refine ⟨_, pss_cons (ps_try3 (X := Z) (i := j) (n := en) (c1 := c1) (c2 := c2) (c3 := c3)
    (tb := fun W D σ H => ∃ Ech : XK, (∀ cls d σ' H', Ech cls d H' → W cls d σ' H') ∧ σ[0]? = some (some (.ref f)) ∧ H c' = some (LamX.CodeO c' q) ∧ tl Ech H fun v H' => D.nx (σ.set i (some v)) H')
    (ts := fun a cls d D σ H => ∃ (σ0 : L2.St) (y : Exn) (C : Addr), σ = σ0.set j (some (.ref a)) ∧ ok y = true ∧ cls = .ref C ∧ X.mg y.c = some (.ref C) ∧ tM X.K X.mg [] (body y d a) (endsOf D.rt) (L2.start Ns [.ref a]) H)
    rfl rfl nd hj (lc lj) ⟨gl g1, d1, .inl m1⟩ ⟨gl g2, d2, .inl m2⟩ ⟨gl g3, d3, .inl m3⟩ (fun W pn xe tk _ => ?_) (fun a oe cls d pn hz hf => ?_)) (pss_one (ps_ret (pe_lst (pa_cons pe_str (pa_cons (pe_var (i := i) hi (.inl li) d5 d6) pa_nil))))), ?_⟩
  · exact ⟨fun pins s' σ H' D I ⟨Ech, w1, w2, w3, w4⟩ => (pss_one (ps_asg (act W pn xe Ech p1 p2 tk w1) (pg_name (i := i) nd hi (.inl li) (.inr li)))).run pins s' σ H' D I ⟨w2, w3, w4⟩⟩
  · refine ⟨fun pins s' σ H' D I ⟨σ0, y, C, w1, w2, w4, w5, w6⟩ => ?_⟩
    subst w4
    have room : L2H.RoomH k (Z.suite a ((a, oe) :: pn)).A := let r := L2H.roomH_of (hr.deeper (PyProof.Rows.envOfC x sg s.heap.objs.size g cdg)); ⟨r.dp, r.un⟩
    have gd' : (Z.suite a ((a, oe) :: pn)).A.guards = some [] := gd
    have good : GoodE X.K X.mg y.c d (a, oe) := ⟨C, w5, T y C w2 w5, hz, hf⟩
    have at_ : σ[j]? = some (some (.ref a)) := by
      have l : σ.length = Ng.length := I.len
      rw [w1, List.length_set] at l
      rw [w1, List.getElem?_set_self (by omega)]
    exact (pss_one (ps_ret (pe_callE (X := Z.suite a ((a, oe) :: pn)) (FP y d w2) gd' room List.mem_cons_self good (gl g4) m4 hk hb (pe_var (i := j) hj (.inl lj) d7 d8) d4))).run pins s' σ H' D I ⟨.ref a, at_, by rw [hps]; rfl, w6⟩
  · refine ⟨fun cls d H' => ∃ y C, ok y = true ∧ cls = .ref C ∧ X.mg y.c = some (.ref C) ∧ PySem.W.exmAny X.K cls [c1, c2, c3] = some true ∧ ∀ a, H' a = none → tM X.K X.mg [] (body y d a) (endsOf Q) (L2.start Ns [.ref a]) H',
      fun cls d σ' H' ⟨y, C, w1, w3, w4, w5, w6⟩ => ⟨w5, fun a ha => ⟨σ', y, C, rfl, w1, w3, w4, w6 a ha⟩⟩, ?_, hc, ?_⟩
    · unfold L2.start; rfl
    · have e : (fun (v : V) (H' : Hp) => ∀ a, H' a = none → Q (.ref a) (upd H' a (.lst [.str "returned", v]))) = fun v H' => tRet (tLst (tCons (tC (.str "returned")) (tCons (tVar i) tNil))) { nx := fun _ H' => Q .non H', rt := Q } ((L2.start Ng [V.ref f]).set i (some v)) H' := by
        funext v H'
        have at_ : ((L2.start Ng [V.ref f]).set i (some v))[i]? = some (some v) := List.getElem?_set_self (by omega)
        refine propext ⟨fun z => ⟨v, at_, by show 2 ≤ sizeLine; rw [sizeLine_eq]; decide, z⟩, fun ⟨v', z1, _, z2⟩ => ?_⟩
        rw [at_] at z1
        cases z1
        exact z2
      have h' : tl _ H _ := h
      rw [e] at h'
      exact h'
end
structure AnsE (P : Program) (w : World) (K : PySem.W.Frag) (mg : Str → Option Value) (base : Heap) (k : Nat) (x a : Str) (pg : Arguments) (bg : List Stmt) (sg : Scope) (Ng Ns ps : List Str) (c1 c2 c3 : Value) (ok : Exn → Bool) (body : Exn → Option Addr → Addr → MS) (sf : Exn → Option D) : Prop where
  fn : ∃ g dV kV doc pm cdv ct oc an od osl, mg x = some (.ref g) ∧ PySem.W.keepIn K (.ref g) = true ∧ K.lookup g = some ⟨oc, od, .func (PySem.W.fnOf x x pg bg sg dV kV doc pm an cdv ct), osl⟩ ∧ PySem.W.codeIn K cdv x = true ∧ L2.Binds K (PySem.W.fnOf x x pg bg sg dV kV doc pm an cdv ct) [a] [] ∧
    ∀ (X : Cx) (q : Str), X.prog = P → X.w = w → X.K = K → X.mg = mg → X.base = base → X.A.guards = some [] → Room (k + 1) X.A → LamX.GivesTo X Ng x sg g cdv bg a q (TTansE K mg c1 c2 c3 Ns ok body)
  Sg : FnScope Ng [a] sg
  a0 : Ng[0]? = some a
  va : Vis sg a
  da : (a == ("__debug__" : Str)) = false
  dc : (a == ("__classdict__" : Str)) = false
  hn : ps.length = 1
  ex : ∀ y C, ok y = true → mg y.c = some (.ref C) → PySem.W.exmAny K (.ref C) [c1, c2, c3] = some true
  says : ∀ y d, sf y = some d → ok y = true ∧ (y.fs = [] → ∀ b, ∃ s2, callR Ns.length (body y none b) [.d (.ptr b)] = some (.rd d s2)) ∧ (y.fs ≠ [] → ∀ b dx, ∃ s2, callR Ns.length (body y (some dx) b) [.d (.exc b dx y.fs)] = some (.rd d s2))
section
variable {X : Cx} {Ng Ns ps : List Str} {x a : Str} {pg params : Arguments} {bg : List Stmt} {sg scope : Scope} {c P : Addr} {k : Nat} {c1 c2 c3 : Value} {ok : Exn → Bool} {body : Exn → Option Addr → Addr → MS} {sf : Exn → Option D} {e : Expr} {m : M D} {r : R} {p lpos pos : Pos}
theorem e_ansE (F : AnsE X.prog X.w X.K X.mg X.base k x a pg bg sg Ng Ns ps c1 c2 c3 ok body sf) (gd : X.A.guards = some []) (hg : Gl X x) (tb : LamX.TabB X.base X.mg c P) (hcode : X.env.code = .ref c) {qn : Str} (hq : X.env.qual = qn) (hin : (P, qn ++ "<lambda>") ∈ HW.T) (one : ∀ p ∈ HW.T, p.1 = P → p.2 = qn ++ "<lambda>") (hr : Room (k + 2) X.A) (L : LamX.LamS X.env.scope scope)
    (hdef : defaultsOf params X.env = ([], [])) (hbind : ∀ (q : Str) (cl : List (Str × Addr)) (pm cv ctv : Value), bindArgs (PySem.W.kla_fn "<lambda>" q params e scope cl pm cv ctv) ⟨[], []⟩ = pure [])
    (hm : ∀ (A : Around) (outer : List Env) (s : Shared) (H : Hp) (E : XK) (f c' : Addr), Room k (A.deeper (LamX.lamEnv X scope s.heap.objs.size f c')) → DE (LamX.lamCx X A outer s H E scope f c') e m)
    (hx : ∀ (A : Around) (outer : List Env) (s : Shared) (H : Hp) (E : XK) (f c' : Addr), Room k (A.deeper (LamX.lamEnv X scope s.heap.objs.size f c')) → RX (LamX.lamCx X A outer s H E scope f c') e r)
    (hdb : (x == ("__debug__" : Str)) = false := by decide) : DE X (.Call (.Name x p) [.Lambda params e scope lpos] [] pos) (ansM m r sf) := by
  subst hq
  obtain ⟨g, dV, kV, doc, pm, cdv, ct, oc, an, od, osl, f1, f2, f3, f4, f5, f6⟩ := F.fn
  refine PE.imp (pe_lamG (T := HW.T) (t := fun E σ H Q => tD X.K X.mg m σ H Q ∨ tXe X.K X.mg r (fun cls d _ G => E cls d G) σ H) rfl hg f1 f2 f3 f4 f5 F.Sg F.a0 F.va (f6 X _ rfl rfl rfl rfl rfl gd (hr.mono (by omega))) tb hcode hin one hr L hdef hbind (fun A outer s H E f c' room => ?_) hdb F.da F.dc) fun σ H Q ⟨sd, W, d, sd', st, em, q⟩ => ⟨st.tabs.2.2, fun G c' gr tabs => ?_⟩
  · have h1 := hm A outer s H E f c' room
    have h2 := hx A outer s H E f c' room (fun cls d _ G => E cls d G) (takes_of rfl rfl rfl rfl)
    exact ⟨fun pins s' σ H' Q I z => z.elim (h1.run pins s' σ H' Q I) (h2.run pins s' σ H' Q I)⟩
  · obtain ⟨stG, kG⟩ := st.lam gr tabs
    unfold ansM at em
    split at em
    · rename_i y s' ey
      obtain ⟨dd, es, em⟩ := Option.map_eq_some_iff.mp em
      cases em
      obtain ⟨oky, hs0, hs1⟩ := F.says y d es
      refine .inr ⟨sd, W, y, sd', stG, ey, fun cls d' H' W' st' k' xr => ?_⟩
      obtain ⟨C, w1, rfl, w2⟩ := xr
      refine ⟨y, C, oky, rfl, w1, F.ex y C oky w1, fun b hb => ?_⟩
      rcases w2 with ⟨w3, rfl⟩ | ⟨w3, dx, gs, rfl, w4, w5⟩
      · obtain ⟨s2, e2⟩ := hs0 w3 b
        refine ⟨_, W', _, st'.call (N := Ns) rfl (.cons .ptr .nil), e2, fun v σ2 H2 W2 st2 k2 _ r2 => ?_⟩
        obtain ⟨z1, z2⟩ := st'.after k2 st2 fun a => noown_start (ds := [.ptr b])
        exact q v H2 W2 z1 ((kG.trans k').trans z2) r2
      · obtain ⟨s2, e2⟩ := hs1 w3 b dx
        refine ⟨_, W', _, st'.call (N := Ns) rfl (.cons (.exc w4 w5) .nil), e2, fun v σ2 H2 W2 st2 k2 _ r2 => ?_⟩
        obtain ⟨z1, z2⟩ := st'.after k2 st2 fun a => noown_start (ds := [.exc b dx y.fs])
        exact q v H2 W2 z1 ((kG.trans k').trans z2) r2
    · obtain ⟨⟨d0, s1⟩, e1, em⟩ := Option.map_eq_some_iff.mp em
      cases em
      refine .inl ⟨sd, W, d0, s1, stG, e1, fun v H' W' st' k' r' b hb => ?_⟩
      obtain ⟨z1, z2⟩ := st'.newV hb (.lst [.str "returned", v])
      exact q (.ref b) _ _ z1 ((kG.trans k').trans z2) (.lst upd_same (.cons (.str _) (.cons (r'.le (Le.upd (st'.free hb))) .nil)))
end
/-! a class that is raised with one argument, which it keeps as a field -/
theorem exB_ValueError : ExB "ValueError" "ValueError.__new__" "ValueError.__init__" [.type "ValueError", .type "Exception", .type "BaseException", .type "object"] := ⟨PySem.F.excBase_ValueError, PySem.W.kxs_ValueError, PySem.F.store_ValueError⟩
def ExFX (P : Program) (K : PySem.W.Frag) (mg : Str → Option Value) (c f : Str) : Prop := ∃ C B newId initId bmB, ExT P K C f B newId initId bmB ∧ mg c = some (.ref C)
theorem exT_mk {P : Program} {K : PySem.W.Frag} {mg : Str → Option Value} {h : Heap} {c f : Str} {C fI cda cc : Addr} {B newId initId : String} {bmB : List Value} {q tx : Str} {q0 q1 p0 p1 p2 p3 p4 p5 p6 p7 p8 p9 : Pos} {j : Nat} {oc kV doc pm ct ccl cl : Value} {od an cdd cld : Option Addr} {osl ccs csl : Array (Option Value)} {vs : Array Value} {file : Str} {tf : Tok}
    (eb : ExB B newId initId bmB) (X : K.In h) (G : h.Ns mainGlobals mg) (a : PySem.W.nsIn K mainGlobals c = some (some (.ref C))) (k : PySem.W.keepIn K (.ref C) = true) (i : PySem.W.excInitIn K C bmB newId = true) (e : PySem.W.subIn K (.ref C) (.type "BaseException") = some true) (t : PySem.W.typeIn K (.ref C) = some (.type "type"))
    (sa : PySem.W.findIn K (.ref C) "__setattr__" = some (some (.builtin "object.__setattr__"))) (ov : PySem.W.excOver K C bmB = true) (tk : PySem.W.takerIn K C f = some none) (hd : PySem.W.hasDictIn K C = true) (ga : PySem.W.findIn K (.ref C) "__getattribute__" = some (some (.builtin "BaseException.__getattribute__"))) (gg : PySem.W.findIn K (.ref C) "__getattr__" = some none)
    (no : PySem.W.findIn K (.ref C) f = some none) (sB : PySem.W.subIn K (.ref C) (.type B) = some true) (sC : PySem.W.mroIn K C (.ref C) = some true) (sup : PySem.W.ks_superIn K C C "__init__" = some (some (.builtin initId))) (op : PySem.W.nsIn K cStatics "thirdparty.any" = some none) (sN : PySem.W.nsIn K mainGlobals "super" = some none)
    (top : (P.main.scope.names.lookup ("super" : Str)).isSome = false) (iC : PySem.W.findIn K (.ref C) "__init__" = some (some (.ref fI))) (tI : PySem.W.typeIn K (.ref fI) = some (.type "function"))
    (lk : K.lookup fI = some ⟨oc, od, .func (PySem.W.fnX "__init__" q (arI f q0 q1) (bdI f tx j p0 p1 p2 p3 p4 p5 p6 p7 p8 p9) (scI f) [("__class__", cc)] .none kV doc pm an (.ref cda) ct), osl⟩) (hcd : PySem.W.codeIn K (.ref cda) q = true)
    (hk : K.lookup cda = some ⟨ccl, cdd, .fields vs, ccs⟩) (hv : vs[2]? = some (.str file tf)) (hf : ((P.main.file : Str) == file) = true) (hl : (p2.endLine == p4.line) = true) (hcc : K.lookup cc = some ⟨cl, cld, .cell (some (.ref C)), csl⟩) : ExFX P K mg c f :=
  ⟨C, B, newId, initId, bmB, ⟨eb, k, i, e, t, sa, ov, tk, hd, ga, gg, no, sB, sC, sup, op, sN, top, fI, cda, cc, q, tx, q0, q1, p0, p1, p2, p3, p4, p5, p6, p7, p8, p9, j, oc, kV, doc, pm, ct, ccl, cl, od, an, cdd, cld, osl, ccs, csl, vs, file, tf, iC, tI, lk, hcd, hk, hv, hf, hl, hcc⟩, PySem.W.mg_of X G a⟩
theorem noF_mk {K : PySem.W.Frag} {mg : Str → Option Value} {h : Heap} {c f : Str} {C : Addr} {hv : Bool} (X : K.In h) (G : h.Ns mainGlobals mg) (a : PySem.W.nsIn K mainGlobals c = some (some (.ref C))) (no : hv = true → PySem.W.findIn K (.ref C) f = some none) : NoF K mg c f hv := fun h1 C' e => by
  rw [PySem.W.mg_of X G a] at e
  cases e
  exact no h1
end Fli
set_option Elab.async false
set_option linter.all false
set_option maxRecDepth 100000
set_option maxHeartbeats 4000000
namespace Fli
open PySem PySem.Spec PyProof.Rows L2
theorem _root_.L2H.RoomH.un66 {k : Nat} {A : Around} (r : L2H.RoomH k A) : A.units + 66 < cLine := by have := r.un; omega
theorem _root_.L2.Room.one {k : Nat} {A : Around} (r : L2.Room (k + 1) A) : L2.Room 1 A := r.mono (by omega)
/-- what sort says: the class and what it keeps, shown -/
def sfOf (r : List D → Option D) (y : Exn) : Option D := match y.fs with
  | [] => some (.lst [.str y.c, .str "None"])
  | [(_, v)] => (r [v]).map fun z => .lst [.str y.c, z]
  | _ => none
end Fli
set_option Elab.async false
set_option linter.all false
set_option maxRecDepth 100000
set_option maxHeartbeats 4000000
namespace Fli
open PySem PySem.Spec PyProof.Rows L2
variable [HW]

/-! list(text), tuple(text) -/
section
variable {X : Cx}
end
section
variable {K : PySem.W.Frag} {mg : Str → Option Value}
end
end Fli
set_option Elab.async false
set_option linter.all false
set_option maxRecDepth 100000
set_option maxHeartbeats 4000000
/-! several defs that make lambdas; what is never come by; isinstance where a dict may stand -/
namespace Fli
open PySem PySem.Spec PyProof.Rows L2
section
variable {K : PySem.W.Frag} {mg : Str → Option Value} {h : Heap}
end
section
variable [HW] {X : Cx} {e : Expr} {m : M D} {x : Str} {p p2 pos : Pos} {fields : List Str}
end
end Fli
set_option Elab.async false
set_option linter.all false
set_option maxRecDepth 100000
set_option maxHeartbeats 4000000
namespace Fli
open PySem PySem.Spec PyProof.Rows L2
/-! x.replace(x[0], "..") of a name x -/
section
variable {X : Cx}
variable [HW]
end
/-! a def that raises, called by place and by keyword -/
section
variable [HW]
variable {X : Cx} {k n np : Nat} {N ps ks : List Str} {r : R} {x : Str} {p po : Pos} {e : Expr} {es : List Expr} {kws : List Keyword} {ms mk : M (List D)}
end
/-! a tuple repeated no time or once -/
theorem tuple_mul1 (l : Addr) (itW : Array Value) (n : Nat) (soW : Array (Option Value)) (u : Tok) (dcW : Option Addr) :
    Meets (Builtin.«tuple.__mul__» ⟨[.ref l, .int 1 u], []⟩) (fun _ R s => s.heap.get? l = some { cls := .type "tuple", dict := dcW, data := .seq itW n, slots := soW } ∧ R (.ok (.ret (Value.ref l))) s) :=
  .of_wp fun prog w A R s h => by
    obtain ⟨heapW, g, d, tk, os⟩ := s
    obtain ⟨atW, h⟩ := h
    have f1 := AutoSeq1.idx_int
    wp_walk using wpAny_loadPart' atW
    exact ⟨_, rfl, h⟩
theorem tuple_mul0 (l : Addr) (itW : Array Value) (n : Nat) (soW : Array (Option Value)) (u : Tok) (dcW : Option Addr) (hi : itW.isEmpty = false) :
    Meets (Builtin.«tuple.__mul__» ⟨[.ref l, .int 0 u], []⟩) (fun _ R s => s.heap.get? l = some { cls := .type "tuple", dict := dcW, data := .seq itW n, slots := soW } ∧
      R (.ok (.ret (Value.ref s.heap.objs.size))) { s with heap := s.heap.push { cls := Value.type "tuple", data := Data.seq #[] }, toks := s.toks }) :=
  .of_wp fun prog w A R s h => by
    obtain ⟨heapW, g, d, tk, os⟩ := s
    obtain ⟨atW, h⟩ := h
    have f1 := AutoSeq1.idx_int
    wp_walk using wpAny_loadPart' atW
    exact ⟨_, rfl, h⟩
section
variable [HW]
def rRepX (K : PySem.W.Frag) : R2 := fun x y H Q => ∃ a k xs, x = .ref a ∧ y = .int k ∧ SqT K H a xs ∧ xs ≠ [] ∧ 0 ≤ k ∧ k ≤ 1000 ∧ xs.length ≤ 1000 ∧ (k = 1 → Q (.ref a) H) ∧ (k ≠ 1 → ∀ p ob, H p = none → FT ob → Q (.ref p) (upd H p (.frz ob (.tup (List.replicate k.toNat xs).flatten))))
section
variable {X : Cx}
theorem op_repX : OpR X (binaryOp .Mult) (rRepX X.K) := by
  intro pn s σ H x y v u Q I rvx rvy h
  obtain ⟨l, k, xs, rfl, rfl, sqW, neX, kLo, kHi, uM, sameQ, freshQ⟩ := h
  cases rvx
  obtain ⟨t, rfl⟩ := rvy
  obtain ⟨ws, r, ⟨⟨klW, dcW, dtW, soW⟩, ogW, kcW, n, kdW⟩, hrest⟩ := I.tuple sqW
  simp only at kcW kdW
  subst kcW kdW
  have lnW : ws.length = xs.length := r.length.symm
  have neW : ws ≠ [] := fun e => neX (by
    rw [e] at lnW
    exact List.eq_nil_of_length_eq_zero lnW.symm)
  have emW : ws.toArray.isEmpty = false := by
    cases ws with
    | nil => exact absurd rfl neW
    | cons a b => rfl
  have fin : ∀ {R : Prop}, R → R := fun h => h
  by_cases k1 : k = 1
  · subst k1
    exact wpAny_binaryOp_repeat_ref (T := "tuple") (U := "int") (by decide) ⟨_, ogW, rfl⟩ (fun s' => typeIs_int s' 1 t) noFill_tuple_mul F.fills_int_mul F.slot_int_rmul repeat_tuple F.slot_int_index.lookup
      (call_meets F.slot_int_rmul (typeIs_int s 1 t) F.entry_int_rmul (F.args_int_rmul_2 _ _) (int_rmul_tuple 1 t l ws.toArray n dcW soW)
        ⟨ogW, rfl, ⟨_, ogW, rfl⟩, call_meets F.slot_tuple_mul ⟨_, ogW, rfl⟩ F.entry_tuple_mul (F.args_tuple_mul_2 _ _) (tuple_mul1 l ws.toArray n soW t dcW) ⟨ogW, ⟨.ref l, H, I, rfl, sameQ rfl⟩⟩⟩)
  by_cases k0 : k = 0
  · subst k0
    refine wpAny_binaryOp_repeat_ref (T := "tuple") (U := "int") (by decide) ⟨_, ogW, rfl⟩ (fun s' => typeIs_int s' 0 t) noFill_tuple_mul F.fills_int_mul F.slot_int_rmul repeat_tuple F.slot_int_index.lookup
      (call_meets F.slot_int_rmul (typeIs_int s 0 t) F.entry_int_rmul (F.args_int_rmul_2 _ _) (int_rmul_tuple 0 t l ws.toArray n dcW soW)
        ⟨ogW, rfl, ⟨_, ogW, rfl⟩, call_meets F.slot_tuple_mul ⟨_, ogW, rfl⟩ F.entry_tuple_mul (F.args_tuple_mul_2 _ _) (tuple_mul0 l ws.toArray n soW t dcW emW) ⟨ogW, ?_⟩⟩)
    exact ⟨.ref s.heap.objs.size, _, lay_F (us := []) I .nil (Nat.zero_le _), rfl, freshQ k1 _ _ (I.hok.fresh (Nat.le_refl _)) ft_new⟩
  have szW : ws.toArray.size = xs.length := by rw [List.size_toArray, lnW]
  have bdW : ((ws.toArray.size : Nat) : Int) * k ≤ 1000000 := by
    rw [szW]
    have mulW : ((xs.length : Nat) : Int) * k ≤ 1000 * k := Int.mul_le_mul_of_nonneg_right (by omega) (by omega)
    omega
  have flW : (List.replicate k.toNat ws).flatten.length ≤ sizeLine := by
    rw [PyProof.Rows.lm_len_rep_flat, lnW, sizeLine_eq]
    have mulW : k.toNat * xs.length ≤ 1000 * 1000 := Nat.mul_le_mul (by omega) uM
    omega
  have g0 : (decide (k < -(2 ^ 63)) || decide (k ≥ 2 ^ 63)) = false := by
    rw [decide_eq_false (by omega), decide_eq_false (by omega)] <;> rfl
  have g1 : (ws.toArray.isEmpty || k == 1) = false := by
    rw [emW, Bool.false_or]
    exact beq_eq_false_iff_ne.mpr k1
  have g2 : (decide (k ≤ 0) || ws.toArray.isEmpty) = false := by
    rw [emW, Bool.or_false]
    exact decide_eq_false (by omega)
  have g4 : Builtin.Tuple.tupleTooMany (((ws.toArray.size : Nat) : Int) * k) = false := by
    unfold Builtin.Tuple.tupleTooMany
    rw [sizeLine_eq]
    exact decide_eq_false (by omega)
  refine wpAny_binaryOp_repeat_ref (T := "tuple") (U := "int") (by decide) ⟨_, ogW, rfl⟩ (fun s' => typeIs_int s' k t) noFill_tuple_mul F.fills_int_mul F.slot_int_rmul repeat_tuple F.slot_int_index.lookup
    (call_meets F.slot_int_rmul (typeIs_int s k t) F.entry_int_rmul (F.args_int_rmul_2 _ _) (int_rmul_tuple k t l ws.toArray n dcW soW)
      ⟨ogW, rfl, ⟨_, ogW, rfl⟩, call_meets F.slot_tuple_mul ⟨_, ogW, rfl⟩ F.entry_tuple_mul (F.args_tuple_mul_2 _ _) (tuple_mulW l ws.toArray n dcW soW k t g0 g1 g2 (by omega) g4 (by rw [size_rep, List.size_toArray]; exact flW)) ⟨ogW, ?_⟩⟩)
  rw [size_rep]
  exact ⟨.ref s.heap.objs.size, _, lay_F I (r.rep k.toNat) (by rw [PyProof.Rows.lm_len_rep_flat, sizeLine_eq]; have mulW : k.toNat * xs.length ≤ 1000 * 1000 := Nat.mul_le_mul (by omega) uM; omega), rfl, freshQ k1 _ _ (I.hok.fresh (Nat.le_refl _)) ft_new⟩
end
/-- a tuple repeated -/
def repX : D → D → Option D
  | .tup ds, .int k => if ds ≠ [] ∧ 0 ≤ k ∧ k ≤ 1000 ∧ ds.length ≤ 1000 then some (.tup (List.replicate k.toNat ds).flatten) else none
  | _, _ => none
theorem rd_repX {K : PySem.W.Frag} {mg : Str → Option Value} : R2D K mg (rRepX K) repX := by
  intro x y z vx vy sd σ H W st hx hy hf Q q
  unfold repX at hf
  split at hf
  · rename_i k
    split at hf
    · rename_i h
      cases hf
      cases hx with
      | tup sx rx =>
        cases hy
        have l1 := rx.len
        refine ⟨_, _, _, rfl, rfl, st_le st.le sx, fun e => h.1 (by subst e; cases rx; rfl), h.2.1, h.2.2.1, by rw [l1]; exact h.2.2.2, fun e => ?_, fun _ p ob hp ho => ?_⟩
        · subst e
          refine q _ H W st Kp.refl (.tup sx ?_)
          show DRs K mg W _ (List.replicate 1 _).flatten
          simpa using rx
        · obtain ⟨g1, g2⟩ := st.newV hp (.frz ob (.tup _))
          exact q _ _ _ g1 g2 (.tup (.inl ⟨ob, upd_same, ho⟩) ((drs_rep rx _).le (Le.upd (st.free hp))))
    · cases hf
  · cases hf
/-! str of a text, of None, of a number -/
theorem call_strN {X : Cx} : CallR X (.type "str") (fun xs H Q => (∃ a, xs = [.str a] ∧ Q (.str a) H) ∨ (xs = [.non] ∧ Q (.str "None") H) ∨ ∃ i, xs = [.int i] ∧ i.natAbs.log2 < 1920 ∧ Q (.str (toString i)) H) := by
  intro pn s σ H xs uW Q iv r h
  rcases h with ⟨a, rfl, q⟩ | ⟨rfl, q⟩ | ⟨i, rfl, hzz, q⟩
  · obtain ⟨uu, rfl, tt, rfl⟩ := vals1 r
    exact PySem.P.str_of_str ⟨.str a, H, iv, ⟨tt, rfl⟩, q⟩
  · obtain ⟨uu, rfl, rr⟩ := vals1 r
    cases rr
    exact PySem.P.str_of_none ⟨.str "None", H, iv.tok _, ⟨_, rfl⟩, q⟩
  · obtain ⟨uu, rfl, tt, rfl⟩ := vals1 r
    exact PySem.P.str_of_int hzz ⟨.str _, H, iv.tok _, ⟨_, rfl⟩, q⟩
def strN : List D → Option D
  | [.str a] => some (.str a)
  | [.non] => some (.str "None")
  | [.int i] => if i.natAbs.log2 < 1920 then some (.str (toString i)) else none
  | _ => none
theorem cd_strN {K : PySem.W.Frag} {mg : Str → Option Value} : C1D K mg (fun xs H Q => (∃ a, xs = [.str a] ∧ Q (.str a) H) ∨ (xs = [.non] ∧ Q (.str "None") H) ∨ ∃ i, xs = [.int i] ∧ i.natAbs.log2 < 1920 ∧ Q (.str (toString i)) H) strN := C1D.of fun xs z vs H W le hx hf Q q => by
  unfold strN at hf
  split at hf
  · cases hf
    cases hx with
    | cons h1 h2 => cases h2; cases h1; exact .inl ⟨_, rfl, q _ (.str _)⟩
  · cases hf
    cases hx with
    | cons h1 h2 => cases h2; cases h1; exact .inr (.inl ⟨rfl, q _ (.str _)⟩)
  · split at hf
    · rename_i hz
      cases hf
      cases hx with
      | cons h1 h2 => cases h2; cases h1; exact .inr (.inr ⟨_, rfl, hz, q _ (.str _)⟩)
    · cases hf
  · cases hf
end
end Fli
set_option Elab.async false
set_option linter.all false
set_option maxRecDepth 100000
set_option maxHeartbeats 4000000
namespace Fli
open PySem PySem.Spec PyProof.Rows L2
variable [HW]
/-! displays of two and three keys, all different -/
section
variable {X : Cx} {pos : Pos}
end
end Fli
set_option Elab.async false
set_option linter.all false
set_option maxRecDepth 100000
set_option maxHeartbeats 4000000
namespace Fli
open PySem PySem.Spec PyProof.Rows L2
/-! sorted of pairs of texts: by the first, then by the second; the sorted list is the only one -/
/-- a tuple of two texts -/
def IsPairS (h : Heap) (v : Value) (x y : Str) : Prop := ∃ a o t u n, v = .ref a ∧ h.get? a = some o ∧ o.cls = .type "tuple" ∧ o.data = .seq #[.str x t, .str y u] n
theorem IsPairS.on {h h' : Heap} {v : Value} {x y : Str} (p : IsPairS h v x y) (k : ∀ b o, h.get? b = some o → o.cls = .type "tuple" → h'.get? b = some o) : IsPairS h' v x y :=
  let ⟨a, o, t, u, n, e, ho, hc, hd⟩ := p
  ⟨a, o, t, u, n, e, k _ _ ho hc, hc, hd⟩
variable [HW]
section
variable {prog : Program} {w : World} {A : Around} {E : Value → Shared → Prop} {s : Shared}
end
section
variable {X : Cx}
end
section
variable {K : PySem.W.Frag} {mg : Str → Option Value} {W H : Hp}
end
end Fli
set_option Elab.async false
set_option linter.all false
set_option maxRecDepth 100000
set_option maxHeartbeats 4000000
namespace Fli
open PySem PySem.Spec PyProof.Rows L2
/-! a sum of lists as an object of its own -/
variable [HW]
/-! x, y, z = data, data, an object of its own -/
section
variable {X : Cx} {pr : List Nat}
end
/-! e in x, x a list of its own that stays so, its items of any depth -/
section
variable {X : Cx} {a : Expr} {ma : M D} {x : Str} {p2 pos : Pos}
end
end Fli
set_option Elab.async false
set_option linter.all false
set_option maxRecDepth 100000
set_option maxHeartbeats 4000000
namespace Fli
open PySem PySem.Spec PyProof.Rows L2
/-! sorted of texts, however many; of texts or of pairs -/
variable [HW]
section
variable {prog : Program} {w : World} {A : Around} {E : Value → Shared → Prop} {s : Shared}
end
section
variable {X : Cx}
end
section
variable {K : PySem.W.Frag} {mg : Str → Option Value}
end
end Fli
set_option Elab.async false
set_option linter.all false
set_option maxRecDepth 100000
set_option maxHeartbeats 4000000
/-! dict(zip(tuple, tuple)) -/
namespace Fli
open PySem PySem.Spec PyProof.Rows L2 RZ
section
variable {prog : Program} {w : World} {A : Around} {E : Value → Shared → Prop} {s : Shared}
end
section
variable [HW]
variable {K : PySem.W.Frag} {mg : Str → Option Value}
end
end Fli
set_option Elab.async false
set_option linter.all false
set_option maxRecDepth 100000
set_option maxHeartbeats 4000000
/-! text[::-1] -/
namespace Fli
open PySem PySem.Spec PyProof.Rows L2
variable [HW]
section
variable {X : Cx} {e st : Expr} {te : TE} {ts : TO} {p2 pos : Pos}
end
end Fli
set_option Elab.async false
set_option linter.all false
set_option maxRecDepth 100000
set_option maxHeartbeats 4000000
/-! tuple(x.values()), x a dict of its own -/
namespace Fli
open PySem PySem.Spec PyProof.Rows L2
open PySem.W (KdlSrc kdl_extend kdl_values kdl_vals_eq)
section
variable {prog : Program} {w : World} {A : Around} {E : Value → Shared → Prop} {s : Shared} {T : String} {r d : Addr} {n : Nat} {P : Nat → Value → Prop} {OK : Heap → Prop}
end
section
variable {X : Cx} {o : Expr} {td : TE} {p pos apos mpos : Pos}
variable [HW]
end
section
variable [HW]
end
end Fli
set_option Elab.async false
set_option linter.all false
set_option maxRecDepth 100000
set_option maxHeartbeats 4000000
/-! sorted(a dict), its keys texts, however many -/
namespace Fli
open PySem PySem.Spec PyProof.Rows L2
section
variable {X : Cx}
variable [HW]
end
section
variable [HW] {K : PySem.W.Frag} {mg : Str → Option Value}
end
end Fli
set_option Elab.async false
set_option linter.all false
set_option maxRecDepth 100000
set_option maxHeartbeats 4000000
namespace Fli
open PySem PySem.Spec PyProof.Rows L2
variable [HW]
/-! x, y, z = data, an object of its own, data -/
section
variable {X : Cx} {pr : List Nat}
end
end Fli
set_option Elab.async false
set_option linter.all false
set_option maxRecDepth 100000
set_option maxHeartbeats 4000000
/-! zip of three texts of plain signs, as long as one another -/
namespace Fli
open PySem PySem.Spec PyProof.Rows L2 RZ
section
variable {prog : Program} {w : World} {A : Around} {E : Value → Shared → Prop} {s : Shared}
end
section
variable [HW] {b : Bool} {K : PySem.W.Frag} {mg : Str → Option Value} {W : Hp}
end
end Fli
set_option Elab.async false
set_option linter.all false
set_option maxRecDepth 100000
set_option maxHeartbeats 4000000
namespace Fli
open PySem PySem.Spec PyProof.Rows L2
variable [HW]

/-! a dict of the module whose values are defs: asked, read, and the def called that was read -/
section
variable {K : PySem.W.Frag} {w : World} {mg : Str → Option Value} {x : Str} {fs : List (Str × Str)}
end
/-- a table of defs, as a list -/
def dtab : List (Str × Nat × MS) → Str → Option (Nat × MS)
  | [], _ => none
  | (g, q) :: r, x => if x = g then some q else dtab r x
inductive DTab (P : Program) (w : World) (K : PySem.W.Frag) (mg : Str → Option Value) (base : Heap) (k l : Nat) : List (Str × Nat × MS) → Prop where
  | nil : DTab P w K mg base k l []
  | cons {g : Str} {n k' : Nat} {N ps : List Str} {m : MS} {r : List (Str × Nat × MS)} (d : DefX P w K mg base k' g N ps [] m) (hk : k' ≤ k) (hn : N.length = n) (hp : ps.length = l) (h : DTab P w K mg base k l r) : DTab P w K mg base k l ((g, n, m) :: r)
theorem DTab.ok {P : Program} {w : World} {K : PySem.W.Frag} {mg : Str → Option Value} {base : Heap} {k l : Nat} : ∀ {r : List (Str × Nat × MS)}, DTab P w K mg base k l r → ∀ g q, dtab r g = some q → ∃ k' N ps, k' ≤ k ∧ N.length = q.1 ∧ ps.length = l ∧ DefX P w K mg base k' g N ps [] q.2
  | _, .nil, g, q, h => nomatch h
  | _, .cons (g := g0) d hk hn hp r, g, q, h => by
    unfold dtab at h
    split at h
    · rename_i e
      cases h
      subst e
      exact ⟨_, _, _, hk, hn, hp, d⟩
    · exact r.ok g q h
/-! x.get(k, d), x a dict with tuples for keys -/
section
variable {X : Cx} {A : Around} {E : Value → Shared → Prop} {pins : List (Addr × Obj)} {s : Shared} {σ : L2.St} {H : Hp} {a : Addr} {y v : V} {o : Option V} {u r : Value}
end
/-! a def that calls itself: as deep as a number says -/
theorem fn_none {P : Program} {w : World} {K : PySem.W.Frag} {mg : Str → Option Value} {base : Heap} {CX : CXT} {k : Nat} {f : Addr} {fd : FuncData} {N ps : List Str} {pr : List Nat} : FnOk P w K mg base CX k f fd ps (spM K mg N ps pr stuckM) := by
  refine ⟨fun vs H Q E h => ?_, fun A outer s H args us vs Q E _ _ _ _ h => ?_⟩
  · exact h.1
  · obtain ⟨_, sd, W, o, st, em, _⟩ := h
    cases em
theorem FunX.defRec {P : Program} {w : World} {K : PySem.W.Frag} {mg : Str → Option Value} {base : Heap} {x : Str} {st : Stmt} {k : Nat} {N ps : List Str} {pr : List Nat} {body : MS} (F : FunX K mg x st) (ok : ∀ {f fd}, Fun K x x st f fd → mg x = some (.ref f) → Binds K fd ps [] → FnOk P w K mg base CX0 k f fd ps (spM K mg N ps pr body)) (b : BindsLike x x st ps) : DefX P w K mg base k x N ps pr body := by
  obtain ⟨f, fd, F, hm⟩ := F
  exact ⟨f, fd, ok F hm (F.binds b), hm, F.kp, F.binds b⟩
end Fli
set_option Elab.async false
set_option linter.all false
set_option maxRecDepth 100000
namespace Fli
open PySem PySem.Spec PyProof.Rows L2 RZ
/-! zip of two tuples -/
section
variable [HW] {b : Bool} {K : PySem.W.Frag} {mg : Str → Option Value} {W : Hp}
end
end Fli
set_option Elab.async false
set_option linter.all false
set_option maxRecDepth 100000
set_option maxHeartbeats 4000000
namespace Fli
open PySem PySem.Spec PyProof.Rows L2
variable [HW]
/-! x is y, both true or false -/
section
variable {X : Cx} {K : PySem.W.Frag} {mg : Str → Option Value}
end
end Fli
set_option Elab.async false
set_option linter.all false
set_option maxRecDepth 100000
set_option maxHeartbeats 4000000
/-! zip of a list and a tuple as long as it is -/
namespace Fli
open PySem PySem.Spec PyProof.Rows L2 RZ
section
variable {prog : Program} {w : World} {A : Around} {E : Value → Shared → Prop} {s : Shared}
end
section
variable [HW] {b : Bool} {K : PySem.W.Frag} {mg : Str → Option Value} {W : Hp}
end
end Fli
set_option Elab.async false
set_option linter.all false
set_option maxRecDepth 100000
set_option maxHeartbeats 4000000
/-! a tuple repeated, the empty one too -/
namespace Fli
open PySem PySem.Spec PyProof.Rows L2
section
variable [HW]
variable {X : Cx}
end
end Fli
set_option Elab.async false
set_option linter.all false
set_option maxRecDepth 100000
set_option maxHeartbeats 4000000
/-! try: .. except C: .., where all that the body raises is of the class C -/
namespace Fli
open PySem PySem.Spec PyProof.Rows L2
variable [HW]
section
variable {X : Cx} {pr : List Nat} {c : Str} {body suite : List Stmt} {b₀ : Stmt} {np pos pos' : Pos} {m h : MS} {r : R}
end
end Fli
set_option Elab.async false
set_option linter.all false
set_option maxRecDepth 100000
set_option maxHeartbeats 4000000
/-! a classmethod that raises -/
namespace Fli
open PySem PySem.Spec PyProof.Rows L2
variable [HW]
section
variable {X : Cx} {pins : List (Addr × Obj)} {σ : L2.St} {H : Hp} {s : Shared} {CX : CXT} {k : Nat} {C p g : Addr} {fd : FuncData} {ps : List Str} {mc : Value} {sp : Sp} {o e : Expr} {es : List Expr} {m : Str} {pos apos : Pos} {ta : TE} {t : TA} {pl : Sem Bool}
end
section
variable {X : Cx} {k n j : Nat} {N ps : List Str} {r : R} {c nm : Str} {p2 apos po : Pos} {e : Expr} {es : List Expr} {ms : M (List D)}
end
end Fli
set_option Elab.async false
set_option linter.all false
set_option maxRecDepth 100000
set_option maxHeartbeats 4000000
/-! a dict is no tuple -/
namespace Fli
open PySem PySem.Spec PySem.SeqAt MeetsSeq PySem.W
open AutoSeq1 (wpAny_loadPart')
section
variable {prog : Program} {w : World} {K : Type} [DecidableEq K] {knd : KeyKind prog w K} {A : Around} {E Q : Value → Shared → Prop} {s : Shared}
end
open L2
section
variable {X : Cx}
end
end Fli
set_option Elab.async false
set_option linter.all false
set_option maxRecDepth 100000
set_option maxHeartbeats 4000000
/-! what is raised, its context known to be none: a body whose suite raises anew; a constructor that raises -/
namespace Fli
open PySem PySem.Spec PyProof.Rows L2
variable [HW]
abbrev RXN (X : Cx) (e : Expr) (r : R) : Prop := ∀ Wi, L2N.Takes X Wi → PE X e fun σ H _ => tXe X.K X.mg r Wi σ H
abbrev RSN (X : Cx) (pr : List Nat) (st : Stmt) (r : R) : Prop := ∀ Wi, L2N.Takes X Wi → PS X st fun _ σ H => tX X.K X.mg pr r Wi σ H
abbrev RSsN (X : Cx) (pr : List Nat) (sts : List Stmt) (r : R) : Prop := ∀ Wi, L2N.Takes X Wi → PSs X sts fun _ σ H => tX X.K X.mg pr r Wi σ H
theorem skyN {B : Heap} {l : List Env} {a L : Addr} {Z Z' : Obj → Prop} {g : Heap} (z : ∀ o, Z o → Z' o) (x : L2.Sky B l a Z L g) : L2.Sky B l a Z' L g := by
  rcases x with ⟨x1, x2, x3, oe, vs, y1, y2, y3⟩ | x | ⟨x1, x2, x3, x4⟩
  · exact .inl ⟨x1, x2, x3, oe, vs, y1, z _ y2, y3⟩
  · exact .inr (.inl (L2H.flyingZ_imp z x))
  · exact .inr (.inr ⟨x1, x2, x3, L2H.tracedZ_imp z x4⟩)
theorem takesN {X : Cx} {W : WX} (t : L2.Takes X W) : L2N.Takes X W := fun u s' ⟨a, B, sI, pins, σ, H, cls, d, e, I, nb, up, sky, na, os, ag, w⟩ => t u s' ⟨a, B, sI, pins, σ, H, cls, d, e, I, nb, up, skyN (fun _ z => z.zc) sky, na, os, ag, w⟩
section
variable {X : Cx} {pr : List Nat} {e a b tg : Expr} {s : Stmt} {ss tt uu : List Stmt} {pos p p2 : Pos} {r r1 r2 : R} {m : MS} {me : M D} {mc : M Bool}
theorem RXN.rx (h : RXN X e r) : RX X e r := fun Wi tk => h Wi (takesN tk)
theorem rssN_no : RSsN X pr ss noR := fun _ _ => ⟨fun _ _ _ _ _ _ ⟨_, _, _, _, _, em, _⟩ => nomatch em⟩
theorem rsN_expr (h : RXN X e r) (hs : swapsWith e none pos.line X.env = pure false := by rfl) : RSN X pr (.Expr e pos) r := fun Wi tk => PS.imp (ps_expr (h Wi tk) hs) fun _ _ _ q => q.e
theorem rsN_if (hc : BT X e mc) (ha : RSsN X pr tt r1) (hb : RSsN X pr uu r2) : RSN X pr (.If e tt uu pos) (ifR mc r1 r2) := fun Wi tk => PS.imp (ps_if hc (ha Wi tk) (hb Wi tk)) fun D σ H ⟨sd, W, x, s', st, em, q⟩ => by
  simp only [ifR, Option.bind_eq_some_iff] at em
  obtain ⟨⟨k, s1⟩, e1, em⟩ := em
  refine ⟨sd, W, k, s1, st, e1, fun H1 W1 st1 k1 => ?_⟩
  cases k with
  | true => exact ⟨s1, W1, x, s', st1, em, fun cls d σ' H' W' st' k' p' xr => q cls d σ' H' W' st' (k1.trans k') p' xr⟩
  | false => exact ⟨s1, W1, x, s', st1, em, fun cls d σ' H' W' st' k' p' xr => q cls d σ' H' W' st' (k1.trans k') p' xr⟩
theorem rssN_cons (h1 : RSN X pr s r1) (hn : SE X.nox pr s m) (h2 : RSsN X pr ss r2) : RSsN X pr (s :: ss) (seqR r1 m r2) := fun Wi tk => by
  have hn1 : SE X pr s m := PS.ofNox hn
  have a1 := pss_cons (h1 Wi tk) (pss_no (X := X) (st := ss))
  have a2 := pss_cons hn1 (h2 Wi tk)
  refine ⟨fun pins s σ H D I ⟨sd, W, x, s', st, em, q⟩ => ?_⟩
  unfold seqR at em
  split at em
  · rename_i x1 e1
    cases em
    exact a1.run pins s σ H D I ⟨sd, W, x, s', st, e1, q⟩
  · simp only [Option.bind_eq_some_iff] at em
    obtain ⟨o, e2, em⟩ := em
    cases o with
    | nx s1 => exact a2.run pins s σ H D I ⟨sd, W, .nx s1, st, e2, fun σ1 H1 W1 st1 k1 p1 => ⟨s1, W1, x, s', st1, em, fun cls d σ' H' W' st' k' p' xr => q cls d σ' H' W' st' (k1.trans k') (p1.trans p') xr⟩⟩
    | _ => cases em
theorem rsN_forE {sts : List Stmt} {tpos : Pos} {elts : List Expr} {kk : Nat} {gs : TGs} {fs : List D → S → Option S} {mi : M D} {rb : R} {p3 : Pos} (hi : DE X e mi) (hr : Gl X "enumerate") (hm : X.mg "enumerate" = none) (hg : PG X (.Tuple elts kk tpos) (gTup X.K 2 gs)) (hf : TGs' X.K X.mg pr gs fs) (hb : SEs X.nox pr sts m) (hx : RSsN X pr sts rb) (hc : X.calm = true) (hp : PassesOwn (model X.prog X.w) X.A X.env X.xe)
    (hs : starEach [e] X.env = [(false, eval e X.env)] := by rfl) (he : starEach (e :: []) X.env = (false, eval e X.env) :: starEach [] X.env := by rfl) : RSN X pr (.For (.Tuple elts kk tpos) (.Call (.Name "enumerate" p) [e] [] p3) sts [] pos) (forER mi fs m rb) := fun Wi tk => by
  have hb1 : SEs X pr sts m := hb.nox
  have both : PSs X sts fun D σ H => tM X.K X.mg pr m D σ H ∨ tX X.K X.mg pr rb Wi σ H := ⟨fun pins s σ H D I q => q.elim (hb1.run pins s σ H D I) ((hx Wi tk).run pins s σ H D I)⟩
  refine PS.imp (ps_for hp hc (pi_enumT hr hm (pa_cons hi pa_nil he) hs) hg both) fun D σ H ⟨sd, W, x, s', st, em, q⟩ => ?_
  simp only [forER, Option.bind_eq_some_iff] at em
  obtain ⟨⟨d, s1⟩, e1, ds, e2, em⟩ := em
  refine ⟨sd, W, d, s1, st, e1, fun v H1 W1 st1 k1 r1 => ?_⟩
  cases d with
  | tup es =>
    cases e2
    cases r1 with
    | @tup a vs _ sa ra =>
      have qq : ∀ cls d σ' H' W', St X.K X.mg s' σ' H' W' → Kp s1 σ H1 W1 s' σ' H' W' → Pr pr σ σ' → ExR X.K X.mg W' x cls d → Wi cls d σ' H' := fun cls d σ' H' W' st' k' p' xr => q cls d σ' H' W' st' (k1.trans k') p' xr
      refine ⟨a, vs, rfl, st_le st1.le sa, fun i m' σ' H' => RTurn X.K X.mg pr s1 σ H1 W1 (tupF 2 fs) m rb (enumD ds) x s' i σ' H' ∧ m' + i = vs.length, ⟨vs.length, ⟨s1, W1, st1, Kp.refl, Pr.refl, em⟩, rfl⟩, ?_⟩
      rintro i m' σ' H' ⟨t, hm'⟩
      have sq : SqT X.K H' a vs := by
        obtain ⟨sd', W', st', k', _, _⟩ := t
        exact st_le (k'.le.trans st'.le) sa
      have lenE : (enumD ds).length = vs.length := by unfold enumD; rw [List.length_mapIdx]; exact ra.len.symm
      by_cases hi : i < vs.length
      · refine .inr ⟨⟨vs, vs[i], sq, by simp [hi]⟩, fun σ2 H2 => RTurn X.K X.mg pr s1 σ H1 W1 (tupF 2 fs) m rb (enumD ds) x s' (i + 1) σ2 H2, fun σ2 H2 n => ⟨m' - 1, by omega, n, by omega⟩, ?_⟩
        rintro y H2 ⟨T, z, rfl, hT, rfl, hy⟩
        obtain ⟨d, hd, rd⟩ := ra.get' (hy vs sq)
        exact RTurn.oneE hf qq (enumD_get hd) t (fun W' le => rd.le le) hT
      · obtain ⟨sd', W', st', k', p', em'⟩ := t
        rw [List.drop_eq_nil_of_le (by omega)] at em'
        cases em'
  | _ => cases e2
end
/-! defs that raise so -/
def DefRN (P : Program) (w : World) (K : PySem.W.Frag) (mg : Str → Option Value) (base : Heap) (k : Nat) (x : Str) (N ps : List Str) (pr : List Nat) (r : R) : Prop :=
  ∃ f fd, FnOk P w K mg base (L2N.CX P w) k f fd ps (spR K mg N ps pr r) ∧ mg x = some (.ref f) ∧ PySem.W.keepIn K (.ref f) = true ∧ Binds K fd ps []
section
variable {P : Program} {w : World} {K : PySem.W.Frag} {mg : Str → Option Value} {base : Heap}
theorem def_okRN {x qual : Str} {st : Stmt} {f : Addr} {fd : FuncData} {N ps : List Str} {k : Nat} {pr : List Nat} {r : R} (F : Fun K x qual st f fd) (Sc : FnScope N ps (defScope st))
    (hb : ∀ (cdv : Value) (A : Around) (outer : List Env) (s : Shared) (H : Hp) (E : XK), Room k (A.deeper (PyProof.Rows.envOfC qual (defScope st) s.heap.objs.size f cdv)) → RSsN (cxOf (L2N.CX P w) P w K mg base N qual (defScope st) f cdv A outer s H E) pr (defBody st) r) :
    FnOk P w K mg base (L2N.CX P w) (k + 1) f fd ps (spR K mg N ps pr r) := by
  obtain ⟨oc, od, kV, doc, pm, an, cdv, ct, osl, rfl, lk, hcd⟩ := F.ex
  exact fn_of lk hcd Sc (fun _ _ _ _ h => h.1) fun A outer s H vs Q E hr h => ⟨_, hb cdv A outer s H E hr (fun cls d _ H' => E cls d H') (L2N.takes_of rfl rfl rfl rfl), h.2⟩
theorem def_okDRN {x qual : Str} {st : Stmt} {f : Addr} {fd : FuncData} {N ps : List Str} {k : Nat} {pr : List Nat} {r : R} {dvs : List V} (F : FunD K x qual (defArgs st) (defBody st) (defScope st) dvs [] f fd) (Sc : FnScope N ps (defScope st))
    (hb : ∀ (cdv : Value) (A : Around) (outer : List Env) (s : Shared) (H : Hp) (E : XK), Room k (A.deeper (PyProof.Rows.envOfC qual (defScope st) s.heap.objs.size f cdv)) → RSsN (cxOf (L2N.CX P w) P w K mg base N qual (defScope st) f cdv A outer s H E) pr (defBody st) r) :
    FnOk P w K mg base (L2N.CX P w) (k + 1) f fd ps (spR K mg N ps pr r) :=
  F.ok Sc (fun _ _ _ _ h => h.1) fun cdv A outer s H vs Q E hr h => ⟨_, hb cdv A outer s H E hr (fun cls d _ H' => E cls d H') (L2N.takes_of rfl rfl rfl rfl), h.2⟩
theorem FunX.defRN {x : Str} {st : Stmt} {k : Nat} {N ps : List Str} {pr : List Nat} {r : R} (F : FunX K mg x st) (ok : ∀ {f fd}, Fun K x x st f fd → FnOk P w K mg base (L2N.CX P w) k f fd ps (spR K mg N ps pr r)) (b : BindsLike x x st ps) : DefRN P w K mg base k x N ps pr r := by
  obtain ⟨f, fd, F, hm⟩ := F
  exact ⟨f, fd, ok F, hm, F.kp, F.binds b⟩
end
section
variable {X : Cx} {k n j : Nat} {N ps : List Str} {r : R} {x : Str} {p pos : Pos} {e : Expr} {es : List Expr} {ms : M (List D)}
theorem rxN_call (d : DefRN X.prog X.w X.K X.mg X.base k x N ps [] r) (hr : Room k X.A) (hg : Gl X x) (hn : N.length = n) (hs : LA X (e :: es) ms) (hl : LenIs ms j) (hj : j = ps.length) (hdb : (x == ("__debug__" : Str)) = false := by decide) (he : starEach (e :: es) X.env = (false, eval e X.env) :: starEach es X.env := by rfl) (hpl : (backTo pos (starEach es X.env)).any (·.1) = false := by rfl) :
    RXN X (.Call (.Name x p) (e :: es) [] pos) (rcall n r ms) := fun Wi tk => by
  obtain ⟨f, fd, F, hm, hk, hb⟩ := d
  refine PE.imp (pe_callS F hr hg hm hk hb (fun σ => L2N.passAt tk σ) hs hdb he hpl) fun σ H Q ⟨sd, W, x0, s', st, em, q⟩ => ?_
  simp only [rcall, Option.bind_eq_some_iff, Option.map_eq_some_iff] at em
  obtain ⟨⟨ds, s1⟩, e1, ⟨x1, s2⟩, e2, em⟩ := em
  cases em
  refine ⟨sd, W, ds, s1, st, e1, fun vs H1 W1 st1 k1 r1 => ⟨?_, _, _, x1, s2, st1.call hn r1, e2, fun cls d σ' H' W' st' k' p' xr => ?_⟩⟩
  · rw [r1.len, ← hj]
    exact hl _ _ _ e1
  · obtain ⟨g1, g2⟩ := st1.after k' st' fun a => noown_start
    exact q cls d H' W' g1 (k1.trans g2) xr
end
/-! a class that is called, its __init__ raising -/
def rmake (n : Nat) (r : R) (c : Str) (ms : M (List D)) (dd : List D) : R := fun s => (ms s).bind fun q => (r (startS n (.own (.obj c []) :: (q.1 ++ dd).map .d))).map fun z => (z.1, q.2)
def MakeRN (P : Program) (w : World) (K : PySem.W.Frag) (mg : Str → Option Value) (base : Heap) (k : Nat) (c : Str) (N ps : List Str) (dd : List D) (r : R) : Prop :=
  ∃ C f fd dvs ds, mg c = some (.ref C) ∧ Mk K C f ∧ FnOk P w K mg base (L2N.CX P w) k f fd ps (spR K mg N ps [0] r) ∧ Binds K fd ps ds ∧ Vals dvs ds ∧ ∀ W, DRs K mg W dvs dd
theorem InitF.makeRN {P : Program} {w : World} {K : PySem.W.Frag} {mg : Str → Option Value} {base : Heap} {c q : Str} {st : Stmt} {k : Nat} {N ps : List Str} {dd : List D} {r : R} {C : Addr} (F : InitF K mg C q st dd) (hm : mg c = some (.ref C)) (n : Nat) (hd : dd ≠ []) (hn : n + (dd.length - (n + dd.length - ps.length)) = ps.length) (ok : ∀ {f fd dvs}, FunD K "__init__" q (defArgs st) (defBody st) (defScope st) dvs [] f fd → FnOk P w K mg base (L2N.CX P w) k f fd ps (spR K mg N ps [0] r))
    (b : BindsDfl q st ps n dd.length) : MakeRN P w K mg base k c N ps (dd.drop (n + dd.length - ps.length)) r := by
  obtain ⟨f, fd, dvs, M, F, rd⟩ := F
  have l : dvs.length = dd.length := (rd fun _ => none).len
  obtain ⟨ds, r1, b1⟩ := FunD.binds1 (ps := ps) F n (n + dd.length - ps.length) (by rintro rfl; cases dd with | nil => exact hd rfl | cons _ _ => cases l) (by rw [l]; exact hn) fun T kV doc pm an cdv ct us its h1 h2 => b T kV doc pm an cdv ct us its h1 (h2.trans l)
  exact ⟨C, f, fd, _, ds, hm, M, ok F, b1, r1, fun W => vals_drs _ (rd W)⟩
section
variable {X : Cx} {k n j : Nat} {N ps : List Str} {r : R} {x c : Str} {p pos : Pos} {e : Expr} {es : List Expr} {ms : M (List D)} {dd : List D} {CX : CXT} {C f : Addr} {fd : FuncData} {sp : Sp} {dvs : List V} {ds : List Value} {t : TA}
/-- the new object given to __init__, which lets something out -/
theorem run_mkS {pins : List (Addr × Obj)} {σ : L2.St} {H : Hp} {s : Shared} {Q : VK} {E : XK} {us : List Value} {vs : List V} (Mx : Mk X.K C f) (F : FnOk X.prog X.w X.K X.mg X.base CX k f fd ps sp) (hr : Room (k + 1) X.A) (hb : Binds X.K fd ps ds) (hd : Vals dvs ds) (hx : PassesAt CX X σ E) (I : Inv X pins σ H s) (rv : Vals vs us)
    (h : ∀ y dy, H y = none → H dy = none → dy ≠ y → sp (.ref y :: (vs ++ dvs)) (upd (upd H dy (.own y)) y (.ins C dy [])) (fun _ _ => False) E) : wpAny (model X.prog X.w) X.A (call (.ref C) us) (EP X pins σ Q) X.xe s := by
  have h1 := I.hok.fresh (Nat.le_succ s.heap.objs.size)
  have h2 := I.hok.fresh (Nat.le_refl s.heap.objs.size)
  have hq := h _ _ h1 h2 (Nat.ne_of_lt (Nat.lt_succ_self _))
  have J := Inv.made (C := C) I
  have r2 : Vals (V.ref (s.heap.objs.size + 1) :: (vs ++ dvs)) (Value.ref (s.heap.objs.size + 1) :: (us ++ ds)) := .cons rfl (rv.append hd)
  have hl := r2.length.symm.trans (F.len _ _ _ _ hq)
  have b2 := hb _ (Value.ref (s.heap.objs.size + 1) :: us) J.kIn hl
  refine wpAny_call (make_map (f := f) I.kIn Mx.makes Mx.init (beq_iff_eq.mp Mx.fn) (codeAny_mono (F.run _ X.stack _ _ ⟨Value.ref (s.heap.objs.size + 1) :: us, []⟩ (Value.ref (s.heap.objs.size + 1) :: (us ++ ds)) _ _ E (hr.make C us [])
    (J.env0.make C us []) b2 r2 hq) fun out s' z => ?_))
  cases out with
  | error er => exact hx pins _ _ er s' J z
  | ok fl =>
    cases fl with
    | ret u =>
      obtain ⟨v, H', I3, rv', q3⟩ := J.after z
      exact q3.elim
    | next => exact z.elim
    | brk => exact z.elim
    | cont => exact z.elim
/-- what __init__ lets out -/
theorem tXe_make {Wi : WX} {K : PySem.W.Frag} {mg : Str → Option Value} {y dy : Addr} {sd s1 s2 : S} {σ : L2.St} {H W H1 W1 : Hp} {vs dvs : List V} {xs : List D} {x1 : Exn} {Q : VK} (hn : N.length = n) (hm : mg c = some (.ref C)) (st : St K mg s1 σ H1 W1) (kk : Kp sd σ H W s1 σ H1 W1) (rr : DRs K mg W1 (vs ++ dvs) xs) (hl : (vs ++ dvs).length + 1 = ps.length)
    (em : r (startS n (.own (.obj c []) :: xs.map .d)) = some (x1, s2)) (q : ∀ cls d H' W', St K mg s1 σ H' W' → Kp sd σ H W s1 σ H' W' → ExR K mg W' x1 cls d → Wi cls d σ H') (hy : H1 y = none) (hdy : H1 dy = none) (ne : dy ≠ y) :
    spR K mg N ps [0] r (.ref y :: (vs ++ dvs)) (upd (upd H1 dy (.own y)) y (.ins C dy [])) Q (WE Wi σ) := by
  obtain ⟨g1, g2⟩ := st.newO hdy (.own y)
  have hy' : (upd H1 dy (.own y)) y = none := by rw [upd_ne (Ne.symm ne)]; exact hy
  obtain ⟨g3, g4⟩ := g1.newO hy' (.ins C dy [])
  have ro : OR K mg (upd (upd H1 dy (.own y)) y (.ins C dy [])) W1 y (.obj c []) := ⟨st.free hy, C, dy, [], hm, upd_same, .nil⟩
  obtain ⟨sl, no⟩ := g3.lend (N := N) hn rr ro
  refine ⟨hl, _, _, x1, s2, sl, em, fun cls d σ2 H3 W3 st3 k3 p3 xr => ?_⟩
  obtain ⟨f1, f2⟩ := St.give (a := y) g3 ((kk.trans g2).trans g4) (fun z => st.notOwn hy z) (kk.fresh hy) st3 k3 no
  exact q cls d H3 W3 f1 f2 xr
theorem rxN_make (mk : MakeRN X.prog X.w X.K X.mg X.base k c N ps dd r) (hr : Room (k + 1) X.A) (hg : Gl X c) (hn : N.length = n) (hs : LA X (e :: es) ms) (hl : LenIs ms j) (hj : j + dd.length + 1 = ps.length) (hdb : (c == ("__debug__" : Str)) = false := by decide) (he : starEach (e :: es) X.env = (false, eval e X.env) :: starEach es X.env := by rfl) (hpl : (backTo pos (starEach es X.env)).any (·.1) = false := by rfl) :
    RXN X (.Call (.Name c p) (e :: es) [] pos) (rmake n r c ms dd) := fun Wi tk => by
  obtain ⟨C, f, fd, dvs, ds, hm, Mx, F, hb, hd, hdd⟩ := mk
  refine ⟨fun pins s σ H Q I ⟨sd, W, x0, s', st, em, q⟩ => ?_⟩
  simp only [rmake, Option.bind_eq_some_iff, Option.map_eq_some_iff] at em
  obtain ⟨⟨xs, s1⟩, e1, ⟨x1, s2⟩, e2, em⟩ := em
  cases em
  refine wpAny_Call_Name_kw (ld_glob I hg hm ?_ hdb)
  refine PySem.W.callWith_K (h₀ := X.base) I.ok.mod.kin Mx.kp (thn (hs.run pos pins s σ H (fun vs H1 => ∀ y dy, H1 y = none → H1 dy = none → dy ≠ y → spR X.K X.mg N ps [0] r (.ref y :: (vs ++ dvs)) (upd (upd H1 dy (.own y)) y (.ins C dy [])) (fun _ _ => False) (WE Wi σ)) I ⟨sd, W, xs, s1, st, e1, fun vs H1 W1 st1 k1 r1 y dy hy hdy ne => ?_⟩) fun us t1 ⟨vs, H1, I1, rv, z⟩ => ⟨I1.kIn, ?_⟩) he hpl
  · have r2 := r1.app (hdd W1)
    refine tXe_make hn hm st1 k1 r2 ?_ e2 (fun cls d H' W' g1 g2 xr => q cls d H' W' g1 g2 xr) hy hdy ne
    rw [r2.len, List.length_append, hl _ _ _ e1]
    exact hj
  · exact run_mkS Mx F hr hb hd (L2N.passAt tk σ) I1 rv z
end
end Fli
set_option Elab.async false
set_option linter.all false
set_option maxRecDepth 100000
set_option maxHeartbeats 4000000
/-! try: .. except (A, B): raise C(e) from None -/
namespace Fli
open PySem PySem.Spec PyProof.Rows L2
variable [HW]
section
variable {P : Program} {w : World} {K : PySem.W.Frag} {mg : Str → Option Value} {base : Heap} {C : Addr} {f : Str} {B newId initId : String} {bmB : List Value} {fI cda cc : Addr} {q tx : Str} {q0 q1 p0 p1 p2 p3 p4 p5 p6 p7 p8 p9 : Pos} {j : Nat} {oc kV doc pm ct ccl cl : Value} {od an cdd cld : Option Addr} {osl ccs csl : Array (Option Value)} {vs : Array Value} {file : Str} {tf : Tok}
end
section
variable {X : Cx} {C : Addr} {f x : Str} {B newId initId : String} {bmB : List Value} {e : Expr} {ta : TA} {p pos : Pos} {k : Nat}
/-- what is made: six fields, no context -/
theorem mk_end5 {pins : List (Addr × Obj)} {σ : L2.St} {H1 H2 : Hp} {Q : XK} {hp hp2 h2 : Heap} {g1 g2 : Array GenState} {d1 d2 : Drawn} {t1 t2 : Nat} {os1 os2 : OsState} {a C d : Addr} {fs : List (Str × V)} (T : Raises X (.ref C)) (I1 : Inv X pins σ H1 ⟨hp, g1, d1, t1, os1⟩)
    (ha : hp.objs.size ≤ a) (kk : ∀ b o, hp.get? b = some o → hp2.get? b = some o) (un : Un (frs X.stack) [] (upd H1 a (exo a C none)) H2 hp2 h2) (hok : HOk X.prog X.w H2 h2) (ho : os2 = os1) (hb : AllBare g2)
    (ea : H2 a = some (exo a C (some d))) (ed : H2 d = some (exd d fs)) (hd1 : H1 d = none) (q : Q (.ref C) (some d) (upd (del H2 a) d (.xd fs))) : L2N.MkP X pins σ Q (.ref a) ⟨h2, g2, d2, t2, os2⟩ ∧ L2H.Six (.ref a) ⟨h2, g2, d2, t2, os2⟩ := by
  obtain ⟨t0, G, J, kG, ge, hoe, na⟩ := mk_end0 (d2 := d2) (t2 := t2) I1 ha kk un hok ho hb ea ed hd1
  refine ⟨⟨a, _, _, ⟨G, g2, d2, t2, os2⟩, _, .ref C, some d, rfl, J, kG, ge, hoe, ⟨rfl, rfl, fun vs z => ?_⟩, rfl, rfl, na, rfl, hb, T, q⟩, fun b oe vs eb g z => ?_⟩
  · cases z
    rfl
  · cases eb
    have g : h2.get? a = some oe := g
    rw [hoe] at g
    cases g
    cases z
    show 4 < 6
    decide
/-- C(e), the context none -/
theorem pmk_exN (N : FdN f) (T : ExT X.prog X.K C f B newId initId bmB) (hr : Room (k + 1) X.A) (hg : Gl X x) (hm : X.mg x = some (.ref C)) (ha : PA X [e] ta) (hdb : (x == ("__debug__" : Str)) = false := by decide)
    (he : starEach [e] X.env = (false, eval e X.env) :: starEach [] X.env := by rfl) (hpl : (backTo pos (starEach [] X.env)).any (·.1) = false := by rfl) :
    L2N.PMk X (.Call (.Name x p) [e] [] pos) (fun σ H Q => ta σ H fun vs H1 => ∃ v, vs = [v] ∧ ∀ d, H1 d = none → Q (.ref C) (some d) (upd H1 d (.xd [(f, v)]))) := by
  intro pins s σ H Q I h
  obtain ⟨fI, cda, cc, q, tx, q0, q1, p0, p1, p2, p3, p4, p5, p6, p7, p8, p9, j, oc, kV, doc, pm, ct, ccl, cl, od, an, cdd, cld, osl, ccs, csl, vs, file, tf, iC, tI, lk, hcd, hk, hv, hf, hl0, hcc⟩ := T.fn
  refine wpAny_Call_Name_kw (ld_glob I hg hm ?_ hdb)
  refine PySem.W.callWith_K (h₀ := X.base) I.ok.mod.kin T.kC (thn (ha.run pos pins s σ H _ I h) fun us s1 ⟨vs, H1, I1, r1, y, ev, q1⟩ => ⟨I1.kIn, ?_⟩) he hpl
  subst ev
  obtain ⟨u, rfl, ry⟩ := vals1 r1
  show wpAny _ _ (call (.ref C) [u]) _ _ _
  obtain ⟨hp, g, dr, tk, os⟩ := s1
  obtain ⟨nm, Nd, qn, bs, bm, hdct, sn, sub, ab, col, dd, k0, k1, k2, k3, k5, hC, hT⟩ := PySem.W.excInit_of I1.kIn T.ini
  have hsz : hp.objs.size ≤ hp.objs.size + 1 := Nat.le_succ _
  have hn : H1 (hp.objs.size + 1) = none := I1.hok.fresh hsz
  have two : ∀ b o, hp.get? b = some o → ((hp.push (PySem.W.kdv_tup [u])).push (PySem.HandSPX.excO C hp.objs.size)).get? b = some o := fun b o z => Heap.get?_push_of_some _ (Heap.get?_push_of_some _ z)
  have new : ((hp.push (PySem.W.kdv_tup [u])).push (PySem.HandSPX.excO C hp.objs.size)).get? (hp.objs.size + 1) = some (PySem.HandSPX.excO C hp.objs.size) := by heap_get
  have I2 := I1.laid (t' := tk) (a := hp.objs.size + 1) (o := exo (hp.objs.size + 1) C none) (h' := (hp.push (PySem.W.kdv_tup [u])).push (PySem.HandSPX.excO C hp.objs.size)) two hsz (exo_ok new)
  refine wpAny_call (PySem.HandSPX.call_own T.eb.F hT hC (PySem.W.looks_findIn I1.kIn iC) (fun self => PySem.W.bind_fn I1.kIn self tI) (by show 1 ≤ sizeLine; rw [sizeLine_eq]; omega)
    (codeAny_mono (init_run (P := X.prog) (w := X.w) (K := X.K) (mg := X.mg) (base := X.base) (A := X.A.under (.builtin "type.__call__" ⟨.ref C :: [u], []⟩)) (outer := X.stack) (a := hp.objs.size + 1) (y := y) (u := u)
      (Q := fun v H2 => v = .non ∧ ∃ d, H1 d = none ∧ d ≠ hp.objs.size + 1 ∧ H2 = upd (upd (upd H1 (hp.objs.size + 1) (exo (hp.objs.size + 1) C none)) d (exd d [(f, y)])) (hp.objs.size + 1) (exo (hp.objs.size + 1) C (some d)))
      N T lk hcd hk hv hf hl0 hcc (hr.make C [u] []) (I2.env0.make C [u] []) upd_same ry (fun d hd ne => ⟨rfl, d, by rw [upd_ne ne] at hd; exact hd, ne, rfl⟩)) fun r s' hq' => ?_))
  cases r with
  | error er => exact False.elim hq'
  | ok fl =>
    cases fl with
    | ret w =>
      obtain ⟨v, H2, os2, bare2, un2, hok2, rv, ev, d, hd1, ne, eH⟩ := hq'
      subst ev
      obtain ⟨h2, g2, d2, t2, os'⟩ := s'
      have ea : H2 (hp.objs.size + 1) = some (exo (hp.objs.size + 1) C (some d)) := by rw [eH, upd_same]
      have ed : H2 d = some (exd d [(f, y)]) := by rw [eH, upd_ne ne, upd_same]
      have eq : upd (del H2 (hp.objs.size + 1)) d (.xd [(f, y)]) = upd H1 d (.xd [(f, y)]) := by
        funext b
        by_cases hb : b = d
        · rw [hb, upd_same, upd_same]
        · rw [upd_ne hb, upd_ne hb]
          by_cases hb2 : b = hp.objs.size + 1
          · rw [hb2, del_same, hn]
          · rw [del_ne hb2, eH, upd_ne hb2, upd_ne hb, upd_ne hb2]
      exact ⟨rv, (mk_end5 (raises_own T.exC T.tyC) I1 hsz two un2 hok2 os2 bare2 ea ed hd1 (by rw [eq]; exact q1 d hd1)).1⟩
    | next => exact False.elim hq'
    | brk => exact False.elim hq'
    | cont => exact False.elim hq'
end
section
variable {X : Cx} {pr : List Nat} {c f : Str} {e : Expr} {me : M D} {p p1 pos : Pos} {C : Addr} {B newId initId : String} {bmB : List Value}
theorem rsN_raiseF (z : ExFX X.prog X.K X.mg c f) (N : FdN f) (hr : Room 1 X.A) (hg : Gl X c) (he : DE X e me) (hc : X.calm = true)
    (hdb : (c == ("__debug__" : Str)) = false := by decide) (hse : starEach [e] X.env = (false, eval e X.env) :: starEach [] X.env := by rfl) (hpl : (backTo p1 (starEach [] X.env)).any (·.1) = false := by rfl) :
    RSN X pr (.Raise (some (.Call (.Name c p) [e] [] p1)) none pos) (raiseR c f me) := fun Wi tk => by
  obtain ⟨C, B, n, i, b, T, hm⟩ := z
  refine PS.imp (L2N.ps_raise hc tk (pmk_exN (k := 0) N T hr hg hm (pa_cons he pa_nil hse) hdb hse hpl)) fun D σ H ⟨sd, W, x, s', st, em, q⟩ => ?_
  simp only [raiseR, Option.bind_eq_some_iff] at em
  obtain ⟨⟨d, s1⟩, e1, em⟩ := em
  cases em
  refine ⟨sd, W, d, s1, st, e1, fun v H1 W1 st1 k1 r1 => ⟨v, rfl, fun dd hd => ?_⟩⟩
  obtain ⟨g1, g2⟩ := st1.newV hd (.xd [(f, v)])
  exact q (.ref C) (some dd) σ _ _ g1 (k1.trans g2) Pr.refl ⟨C, hm, rfl, .inr ⟨by simp, dd, _, rfl, upd_same, .cons (r1.le (Le.upd (st1.free hd))) .nil⟩⟩
end
/-! the clause of two classes, its suite raising -/
section
variable {X : Cx} {x1 x2 : Str} {c1 c2 : Value} {kk : Nat} {body suite : List Stmt} {b₀ : Stmt} {p1 p2 np pos pos' : Pos} {tb : WX → TS} {ts : Addr → Value → Option Addr → TS} {Wout : WX}
end
section
variable {X : Cx} {pr : List Nat} {a b : Str} {kk : Nat} {body suite : List Stmt} {b₀ : Stmt} {p1 p2 np pos pos' : Pos} {r h : R}
end
end Fli
set_option Elab.async false
set_option linter.all false
set_option maxRecDepth 100000
set_option maxHeartbeats 4000000
/-! a classmethod that raises, by keywords; one of two that raises; two classes in a clause -/
namespace Fli
open PySem PySem.Spec PyProof.Rows L2
variable [HW]
section
variable {X : Cx} {k n : Nat} {N ps ks : List Str} {idx : List Nat} {r : R} {c nm : Str} {p2 apos po : Pos} {kws : List Keyword} {ms : M (List D)}
end
section
variable {X : Cx} {c a b : Expr} {pos : Pos} {mc : M Bool} {r1 r2 : R}
end
end Fli
set_option Elab.async false
set_option linter.all false
set_option maxRecDepth 100000
set_option maxHeartbeats 4000000
/-! a list of anything is not the empty one -/
namespace Fli
open PySem PySem.Spec PyProof.Rows L2
variable [HW]
def rLenL (K : PySem.W.Frag) (b : Bool) : R2 := fun x y H Q => ∃ a c vs ws, x = .ref a ∧ y = .ref c ∧ SqL K H a vs ∧ SqL K H c ws ∧ vs.length ≠ ws.length ∧ Q (.bl b) H
section
variable {X : Cx}
theorem op_eqLen (hu : X.A.units < cLine) : OpR X (compareOp .Eq) (rLenL X.K false) := by
  intro pins s σ H x y v u Q I rx ry ⟨a, c, vs, ws, e1, e2, q1, q2, ne, q⟩
  subst e1 e2
  obtain rfl : v = Value.ref a := rx
  obtain rfl : u = Value.ref c := ry
  obtain ⟨i1, r1, p1, _⟩ := I.list q1
  obtain ⟨i2, r2, p2, _⟩ := I.list q2
  exact SeqAt.RcAt.lists_lengths p1.isList p2.isList (by rw [bne_iff_ne]; intro z; apply ne; rw [r1.length, r2.length]; simpa using z) hu _ _ _ _ (fin_bl I q rfl)
def rEqNil (K : PySem.W.Frag) : R2 := fun x y H Q => rEqD K x y H Q ∨ rLenL K false x y H Q
theorem op_eqNil (hu : X.A.units + 64 < cLine) : OpR X (compareOp .Eq) (rEqNil X.K) := by
  intro pins s σ H x y v u Q I rx ry h
  rcases h with h | h
  · exact op_eqD hu pins s σ H x y v u Q I rx ry h
  · exact op_eqLen (by omega) pins s σ H x y v u Q I rx ry h
end
/-- == (or !=) where a list that is not empty may stand before an empty one -/
def eqNil (neg : Bool) (x y : D) : Option D := match x, y with
  | .lst (_ :: _), .lst [] => some (.bl neg)
  | _, _ => eqD neg x y
theorem rd_eqNil {K : PySem.W.Frag} {mg : Str → Option Value} : R2D K mg (rEqNil K) (eqNil false) := R2D.of fun x y z vx vy H W le hx hy hf Q q => by
  unfold eqNil at hf
  split at hf
  · cases hf
    cases hx with
    | lst s1 r1 =>
      cases hy with
      | lst s2 r2 =>
        cases r1
        cases r2
        exact .inr ⟨_, _, _, _, rfl, rfl, .of (le _ _ s1), .of (le _ _ s2), by simp, q _ (.bl _)⟩
  · simp only [eqD, Option.bind_eq_some_iff] at hf
    obtain ⟨a, ha, b, hb, hf⟩ := hf
    split at hf
    · rename_i h
      cases hf
      rw [Bool.false_xor] at q
      exact .inl ⟨a, b, toDp le hx ha, toDp le hy hb, h.1, h.2, q _ (.bl _)⟩
    · cases hf
end Fli
set_option Elab.async false
set_option linter.all false
set_option maxRecDepth 100000
set_option maxHeartbeats 4000000
/-! a class whose __init__ has no defaults -/
namespace Fli
open PySem PySem.Spec PyProof.Rows L2
variable [HW]
def InitZ (K : PySem.W.Frag) (C : Addr) (q : Str) (st : Stmt) : Prop := ∃ f fd, Mk K C f ∧ Fun K "__init__" q st f fd
section
variable {P : Program} {w : World} {K : PySem.W.Frag} {mg : Str → Option Value} {base : Heap} {c q : Str} {st : Stmt} {k : Nat} {N ps ks : List Str} {body : MS} {r : R} {C : Addr}
theorem InitZ.makeX (F : InitZ K C q st) (hm : mg c = some (.ref C)) (ok : ∀ {f fd}, Fun K "__init__" q st f fd → FnOk P w K mg base CX0 k f fd ps (spM K mg N ps [0] body)) (b : BindsLike "__init__" q st ps) : MakeX P w K mg base k c N ps [] body := by
  obtain ⟨f, fd, M, F⟩ := F
  exact ⟨C, f, fd, [], [], hm, M, ok F, F.binds b, .nil, fun W => .nil⟩
theorem InitZ.makeRN (F : InitZ K C q st) (hm : mg c = some (.ref C)) (ok : ∀ {f fd}, Fun K "__init__" q st f fd → FnOk P w K mg base (L2N.CX P w) k f fd ps (spR K mg N ps [0] r)) (b : BindsLike "__init__" q st ps) : MakeRN P w K mg base k c N ps [] r := by
  obtain ⟨f, fd, M, F⟩ := F
  exact ⟨C, f, fd, [], [], hm, M, ok F, F.binds b, .nil, fun W => .nil⟩
theorem InitZ.makeKX {gD : List D → List D} (F : InitZ K C q st) (hm : mg c = some (.ref C)) (g : {α : Type} → List α → List α → List α) (hrel : ∀ {vs zs : List V} {us ws : List Value}, Vals vs us → Vals zs ws → Vals (g vs zs) (g us ws))
    (ok : ∀ {f fd}, Fun K "__init__" q st f fd → FnOk P w K mg base CX0 k f fd ps (spM K mg N ps [0] body))
    (b : ∀ (kV doc pm : Value) (an : Option Addr) (cdv ct : Value) (us ws : List Value), us.length = 1 → ws.length = ks.length → bindArgs (PySem.W.fnOf "__init__" q (defArgs st) (defBody st) (defScope st) .none kV doc pm an cdv ct) ⟨us, ks.zip ws⟩ = pure (ps.zip (g us ws)))
    (hg : ∀ (v : V) (zs : List V) (W : Hp) (xs : List D), xs.length = ks.length → DRs K mg W zs xs → ∃ us, g [v] zs = v :: us ∧ DRs K mg W us (gD xs)) : MakeKX P w K mg base k c N ps ks gD body := by
  obtain ⟨f, fd, M, F⟩ := F
  have F0 := F
  obtain ⟨oc, od, kV, doc, pm, an, cdv, ct, osl, rfl, lk, hcd⟩ := F.ex
  exact ⟨C, f, _, g, g, hm, M, ok F0, ⟨fun s us ws _ h1 h2 => .of_eq (b kV doc pm an cdv ct us ws h1 h2), fun rv rz => hrel rv rz⟩, hg⟩
end
end Fli
set_option Elab.async false
set_option linter.all false
set_option maxRecDepth 100000
set_option maxHeartbeats 4000000
/-! texts in their order; a tuple of anything against the empty one; a constructor that raises, by keywords -/
namespace Fli
open PySem PySem.Spec PyProof.Rows L2
variable [HW]
abbrev rLeSt : R2 := fun x y H Q => ∃ i j, x = .str i ∧ y = .str j ∧ Q (.bl (!decide (j.cps.toList < i.cps.toList))) H
def leSt (x y : D) : Option D := match x, y with
  | .str i, .str j => some (.bl (!decide (j.cps.toList < i.cps.toList)))
  | _, _ => none
theorem rd_leSt {K : PySem.W.Frag} {mg : Str → Option Value} : R2D K mg rLeSt leSt := R2D.of fun x y z vx vy H W le hx hy hf Q q => by
  unfold leSt at hf
  split at hf
  · cases hf
    cases hx
    cases hy
    exact ⟨_, _, rfl, rfl, q _ (.bl _)⟩
  · cases hf
def rTupNil (K : PySem.W.Frag) (neg : Bool) : R2 := fun x y H Q => ∃ a c vs, x = .ref a ∧ y = .ref c ∧ SqT K H a vs ∧ SqT K H c [] ∧ Q (.bl (neg ^^ vs.isEmpty)) H
section
variable {X : Cx}
theorem op_eqTupNil (h1 : X.A.units + 1 < cLine) : OpR X (compareOp .Eq) (rTupNil X.K false) := by
  have hu : X.A.units < cLine := by omega
  intro pins s σ H x y v u Q I rx ry ⟨a, c, vs, e1, e2, q1, q2, q⟩
  subst e1 e2
  obtain rfl : v = Value.ref a := rx
  obtain rfl : u = Value.ref c := ry
  obtain ⟨i1, r1, p1, _⟩ := I.tuple q1
  obtain ⟨i2, r2, p2, _⟩ := I.tuple q2
  cases r2
  refine SeqAt.RcAt.tuples (e := fun _ => true) p1 p2 hu (fun j _ h2 => absurd h2 (by simp)) _ _ _ _ (fin_bl I q ?_)
  rw [Bool.false_xor]
  cases r1 <;> simp
theorem op_neTupNil (h1 : X.A.units + 1 < cLine) : OpR X (compareOp .NotEq) (rTupNil X.K true) := by
  have hu : X.A.units < cLine := by omega
  intro pins s σ H x y v u Q I rx ry ⟨a, c, vs, e1, e2, q1, q2, q⟩
  subst e1 e2
  obtain rfl : v = Value.ref a := rx
  obtain rfl : u = Value.ref c := ry
  obtain ⟨i1, r1, p1, _⟩ := I.tuple q1
  obtain ⟨i2, r2, p2, _⟩ := I.tuple q2
  cases r2
  refine SeqAt.RcNeAt.tuples (e := fun _ => true) p1 p2 hu (fun j _ h2 => absurd h2 (by simp)) _ _ _ _ (fin_bl I q ?_)
  cases r1 <;> simp
end
/-- == (or !=) of a tuple of anything and the empty one -/
def eqNilT (neg : Bool) (x y : D) : Option D := match x, y with
  | .tup ds, .tup [] => some (.bl (neg ^^ ds.isEmpty))
  | _, _ => none
theorem rd_tupNil {K : PySem.W.Frag} {mg : Str → Option Value} {neg : Bool} : R2D K mg (rTupNil K neg) (eqNilT neg) := R2D.of fun x y z vx vy H W le hx hy hf Q q => by
  unfold eqNilT at hf
  split at hf
  · cases hf
    cases hx with
    | tup s1 r1 =>
      cases hy with
      | tup s2 r2 =>
        cases r2
        refine ⟨_, _, _, rfl, rfl, st_le le s1, st_le le s2, ?_⟩
        cases r1 <;> exact q _ (.bl _)
  · cases hf
/-- a list cut, a list of its own -/
def slOw (x : D) (lo hi : Option Int) : Option O := match x with
  | .lst ds => some (.lst (cutD ds lo hi))
  | _ => none
def slMOw (a : M D) (l h : M (Option Int)) : M O := bindM a fun x => bindM l fun lo => bindM h fun hi => optM (slOw x lo hi)
theorem o_slL {X : Cx} {a : Expr} {pos p2 : Pos} {ma : M D} {lo hi : Option Expr} {ml mh : M (Option Int)} (ha : DE X a ma) (hl : IP X lo ml) (hh : IP X hi mh) : OE X (.Subscript a (.Slice lo hi none p2) pos) (slMOw ma ml mh) := PE.imp (pe_slice sl_list ha hl hh) fun σ H Q ⟨sd, W, o, sd', st, em, q⟩ => by
  obtain ⟨x, s1, e1, em⟩ := bindM_some em
  obtain ⟨l, s2, e2, em⟩ := bindM_some em
  obtain ⟨u, s3, e3, em⟩ := bindM_some em
  obtain ⟨e4, rfl⟩ := optM_some em
  refine ⟨sd, W, x, s1, st, e1, fun v H1 W1 st1 k1 r1 => ⟨s1, W1, l, s2, st1, e2, fun H2 W2 st2 k2 => ⟨s2, W2, u, sd', st2, e3, fun H3 W3 st3 k3 => ?_⟩⟩⟩
  have r3 := (r1.le k2.le).le k3.le
  have kk := (k1.trans k2).trans k3
  cases r3 with
  | lst s r =>
    cases e4
    refine ⟨_, _, rfl, .inl (.inl (st3.le _ _ s)), fun p hp => ?_⟩
    obtain ⟨g1, g2⟩ := st3.newO hp (.lst _)
    exact q p _ W3 g1 (kk.trans g2) ⟨st3.free hp, _, upd_same, cut_rs r⟩ (fun z => (g2.own p z).elim (fun z => st3.notOwn hp z) fun _ => st3.notOwn hp z) (kk.fresh hp)
  | _ => cases e4
/-! C(k = v, ..) that raises -/
def MakeRK (P : Program) (w : World) (K : PySem.W.Frag) (mg : Str → Option Value) (base : Heap) (k : Nat) (c : Str) (N ps ks : List Str) (gD : List D → List D) (r : R) : Prop :=
  ∃ C f fd g gV, mg c = some (.ref C) ∧ Mk K C f ∧ FnOk P w K mg base (L2N.CX P w) k f fd ps (spR K mg N ps [0] r) ∧ L2.KBn K fd ps 1 ks g gV ∧
    (∀ (v : V) (zs : List V) (W : Hp) (xs : List D), xs.length = ks.length → DRs K mg W zs xs → ∃ us, gV [v] zs = v :: us ∧ DRs K mg W us (gD xs))
section
variable {P : Program} {w : World} {K : PySem.W.Frag} {mg : Str → Option Value} {base : Heap} {c q : Str} {st : Stmt} {k : Nat} {N ps ks : List Str} {r : R} {C : Addr} {dd : List D}
theorem InitZ.makeRK {gD : List D → List D} (F : InitZ K C q st) (hm : mg c = some (.ref C)) (g : {α : Type} → List α → List α → List α) (hrel : ∀ {vs zs : List V} {us ws : List Value}, Vals vs us → Vals zs ws → Vals (g vs zs) (g us ws))
    (ok : ∀ {f fd}, Fun K "__init__" q st f fd → FnOk P w K mg base (L2N.CX P w) k f fd ps (spR K mg N ps [0] r))
    (b : ∀ (kV doc pm : Value) (an : Option Addr) (cdv ct : Value) (us ws : List Value), us.length = 1 → ws.length = ks.length → bindArgs (PySem.W.fnOf "__init__" q (defArgs st) (defBody st) (defScope st) .none kV doc pm an cdv ct) ⟨us, ks.zip ws⟩ = pure (ps.zip (g us ws)))
    (hg : ∀ (v : V) (zs : List V) (W : Hp) (xs : List D), xs.length = ks.length → DRs K mg W zs xs → ∃ us, g [v] zs = v :: us ∧ DRs K mg W us (gD xs)) : MakeRK P w K mg base k c N ps ks gD r := by
  obtain ⟨f, fd, M, F⟩ := F
  have F0 := F
  obtain ⟨oc, od, kV, doc, pm, an, cdv, ct, osl, rfl, lk, hcd⟩ := F.ex
  exact ⟨C, f, _, g, g, hm, M, ok F0, ⟨fun s us ws _ h1 h2 => .of_eq (b kV doc pm an cdv ct us ws h1 h2), fun rv rz => hrel rv rz⟩, hg⟩
theorem InitF.makeRK {gD : List D → List D} (F : InitF K mg C q st dd) (hm : mg c = some (.ref C)) (hd : dd ≠ []) (g : {α : Type} → List α → List α → List α) (hrel : ∀ {vs zs : List V} {us ws : List Value}, Vals vs us → Vals zs ws → Vals (g vs zs) (g us ws))
    (ok : ∀ {f fd dvs}, FunD K "__init__" q (defArgs st) (defBody st) (defScope st) dvs [] f fd → FnOk P w K mg base (L2N.CX P w) k f fd ps (spR K mg N ps [0] r))
    (b : ∀ (T : Addr) (kV doc pm : Value) (an : Option Addr) (cdv ct : Value) (us its ws : List Value), us.length = 1 → its.length = dd.length → ws.length = ks.length → ∃ k, bindArgs (PySem.W.fnOf "__init__" q (defArgs st) (defBody st) (defScope st) (.ref T) kV doc pm an cdv ct) ⟨us, ks.zip ws⟩ = seqItems? (.ref T) >>= k ∧ k (some its.toArray) = pure (ps.zip (g us ws)))
    (hg : ∀ (v : V) (zs : List V) (W : Hp) (xs : List D), xs.length = ks.length → DRs K mg W zs xs → ∃ us, g [v] zs = v :: us ∧ DRs K mg W us (gD xs)) : MakeRK P w K mg base k c N ps ks gD r := by
  obtain ⟨f, fd, dvs, M, F, r⟩ := F
  have l : dvs.length = dd.length := (r fun _ => none).len
  obtain ⟨its, kb⟩ := FunD.kbindsD (ps := ps) F 1 ks (fun us _ ws => g us ws) (by rintro rfl; cases dd with | nil => exact hd rfl | cons _ _ => cases l) (fun a _ b => hrel a b) fun T kV doc pm an cdv ct us its ws h1 h2 h3 => b T kV doc pm an cdv ct us its ws h1 (h2.trans l) h3
  exact ⟨C, f, fd, _, _, hm, M, ok F, kb, hg⟩
end
def rmakeK (n : Nat) (r : R) (c : Str) (ms : M (List D)) (gD : List D → List D) : R := fun s => (ms s).bind fun q => (r (startS n (.own (.obj c []) :: (gD q.1).map .d))).map fun z => (z.1, q.2)
section
variable {X : Cx} {k n : Nat} {N ps ks : List Str} {r : R} {c : Str} {p pos : Pos} {kws : List Keyword} {ms : M (List D)} {CX : CXT} {C f : Addr} {fd : FuncData} {sp : Sp} {g : List Value → List Value → List Value} {gV : List V → List V → List V}
theorem run_mkKS {pins : List (Addr × Obj)} {σ : L2.St} {H : Hp} {s : Shared} {Q : VK} {E : XK} {ws : List Value} {zs : List V} (Mx : Mk X.K C f) (F : FnOk X.prog X.w X.K X.mg X.base CX k f fd ps sp) (hr : Room (k + 1) X.A) (hb : L2.KBn X.K fd ps 1 ks g gV) (hx : PassesAt CX X σ E) (I : Inv X pins σ H s) (rz : Vals zs ws) (l2 : zs.length = ks.length)
    (h : ∀ y dy, H y = none → H dy = none → dy ≠ y → sp (gV [.ref y] zs) (upd (upd H dy (.own y)) y (.ins C dy [])) (fun _ _ => False) E) : wpAny (model X.prog X.w) X.A (call (.ref C) [] (ks.zip ws)) (EP X pins σ Q) X.xe s := by
  have h1 := I.hok.fresh (Nat.le_succ s.heap.objs.size)
  have h2 := I.hok.fresh (Nat.le_refl s.heap.objs.size)
  have hq := h _ _ h1 h2 (Nat.ne_of_lt (Nat.lt_succ_self _))
  have J := Inv.made (C := C) I
  have r1 : Vals [V.ref (s.heap.objs.size + 1)] [Value.ref (s.heap.objs.size + 1)] := .cons rfl .nil
  have r2 := hb.rel r1 rz
  refine wpAny_call (make_map (f := f) I.kIn Mx.makes Mx.init (beq_iff_eq.mp Mx.fn) (codeAny_mono (F.run _ X.stack _ _ ⟨[Value.ref (s.heap.objs.size + 1)], ks.zip ws⟩ (g [Value.ref (s.heap.objs.size + 1)] ws) _ _ E (hr.make C [] (ks.zip ws))
    (J.env0.make C [] (ks.zip ws)) (hb.to _ [Value.ref (s.heap.objs.size + 1)] ws J.kIn rfl (rz.length.symm.trans l2)) r2 hq) fun out s' z => ?_))
  cases out with
  | error er => exact hx pins _ _ er s' J z
  | ok fl =>
    cases fl with
    | ret u =>
      obtain ⟨v, H', I3, rv', q3⟩ := J.after z
      exact q3.elim
    | next => exact z.elim
    | brk => exact z.elim
    | cont => exact z.elim
theorem rxN_makeK {gD : List D → List D} (mk : MakeRK X.prog X.w X.K X.mg X.base k c N ps ks gD r) (hr : Room (k + 1) X.A) (hg : Gl X c) (hn : N.length = n) (hs : LK X kws ms) (hl : LenIs ms ks.length) (hj : ∀ xs : List D, xs.length = ks.length → (gD xs).length + 1 = ps.length)
    (hall : (backToKw pos (keywordEach kws X.env)).all (·.1.isSome) = true := by rfl) (hks : (backToKw pos (keywordEach kws X.env)).filterMap (·.1) = ks := by rfl) (hdb : (c == ("__debug__" : Str)) = false := by decide)
    (hpl : ((backTo pos (starEach [] X.env)).any (·.1) || (backToKw pos (keywordEach kws X.env)).any (·.1.isNone)) = false := by rfl) :
    RXN X (.Call (.Name c p) [] kws pos) (rmakeK n r c ms gD) := fun Wi tk => by
  obtain ⟨C, f, fd, g, gV, hm, Mx, F, hb, hgV⟩ := mk
  refine ⟨fun pins s σ H Q I ⟨sd, W, x0, s', st, em, q⟩ => ?_⟩
  simp only [rmakeK, Option.bind_eq_some_iff, Option.map_eq_some_iff] at em
  obtain ⟨⟨xs, s1⟩, e1, ⟨x1, s2⟩, e2, em⟩ := em
  cases em
  refine wpAny_Call_Name_kw (ld_glob I hg hm ?_ hdb)
  refine PySem.W.callWith_KW0 (h₀ := X.base) I.ok.mod.kin Mx.kp hall ?_ hpl
  refine thn (hs.run pos pins s σ H (fun zs H1 => zs.length = ks.length ∧ ∀ y dy, H1 y = none → H1 dy = none → dy ≠ y → spR X.K X.mg N ps [0] r (gV [.ref y] zs) (upd (upd H1 dy (.own y)) y (.ins C dy [])) (fun _ _ => False) (WE Wi σ)) I ⟨sd, W, xs, s1, st, e1, fun zs H1 W1 st1 k1 r1 => ⟨by rw [r1.len]; exact hl _ _ _ e1, fun y dy hy hdy ne => ?_⟩⟩) fun ws t1 ⟨zs, H1, I1, rz, l, z⟩ => ⟨I1.kIn, ?_⟩
  · obtain ⟨us, eg, ru⟩ := hgV (.ref y) zs W1 xs (hl _ _ _ e1) r1
    rw [eg]
    have z := tXe_make (dvs := []) (Q := fun _ _ => False) hn hm st1 k1 (by rw [List.append_nil]; exact ru) (by rw [List.append_nil, ru.len]; exact hj _ (hl _ _ _ e1)) e2 (fun cls d H' W' g1 g2 xr => q cls d H' W' g1 g2 xr) hy hdy ne
    rw [List.append_nil] at z
    exact z
  · rw [hks]
    exact run_mkKS Mx F hr hb (L2N.passAt tk σ) I1 rz l z
end
end Fli
set_option Elab.async false
set_option linter.all false
set_option maxRecDepth 100000
set_option maxHeartbeats 8000000
namespace Fli
open PySem L2
def top (i : Nat) : Stmt := PySem.Challenge.pw_fliponce_k02_whole_switches_and_rules_ju.main.body.getD i (.Pass ⟨0, 0, 0, 0⟩)
section
variable [HW] {K : PySem.W.Frag} {mg : Str → Option Value} {base : Heap}
abbrev k_MOST_NAME : D := .int 8

abbrev k_MOST_SWITCHES : D := .int 10

abbrev k_MOST_RULES : D := .int 240

abbrev k_SIGNS : D := .tup ((["+", "-"] : List Str).map D.str)

abbrev k_LETTERS : D := .str ("abcdefghijklmnopqrstuvwxyz" : Str)

abbrev k_LITERAL_WORDS : D := .tup ((["either", "needs", "bars"] : List Str).map D.str)

abbrev k_NAME_WORDS : D := .tup ((["same", "unlike"] : List Str).map D.str)

abbrev k_WORDS : D := .tup ((["be", "either", "needs", "bars", "same", "unlike"] : List Str).map D.str)

abbrev dd_Panel : List D := [.tup []]

abbrev s__law_bag : Stmt := top 31
abbrev N__law_bag : List Str := ["_law_script", "_law_k", "_law_held_cell", "_law_seed", "_law_this", "_law_held_signs"]
abbrev p__law_bag : List Str := ["_law_script", "_law_k"]
def m__law_bag : MS := (seqM (parM 2 3 (bindM (ifM (bindM (mBin (cmpD fun i j => decide (i < j)) (mVar 1) (bindM (bindM (mVar 0) fun d => bindM (retM []) fun ds => retM (d :: ds)) fun ds => optM (lenD ds))) fun d => optM (blD d)) (bindM (bindM (mBin atD (mVar 0) (mVar 1)) fun d => bindM (retM []) fun ds => retM (d :: ds)) fun ds => optM (intcD ds)) (retM (.int 0))) fun d => bindM (bindM (mBin mulD (retM (.int 93997)) (mBin addL (mVar 1) (retM (.int 5)))) fun d => bindM (retM []) fun ds => retM (d :: ds)) fun ds => retM (d :: ds)))
  (seqM (forL (slM slL (mVar 0) (retM none) (bindM (retM (.int 7)) fun d => optM ((intD d).map some))) (setF 4)
  (seqM (asgM (mBin modD (bindM (bindM (mBin addL (mBin addL (mBin mulD (mVar 3) (retM (.int 47717))) (mBin modD (bindM (bindM (mVar 4) fun d => bindM (retM []) fun ds => retM (d :: ds)) fun ds => optM (intcD ds)) (retM (.int 1000121)))) (mBin mulD (retM (.int 17)) (mVar 1))) fun d => bindM (retM []) fun ds => retM (d :: ds)) fun ds => optM (intcD ds)) (retM (.int 2147483549))) (setF 3))
  nxM))
  (seqM (asgM (ifM (orB (bindM (mBin (cmpD fun i j => decide (i < j)) (mVar 2) (retM (.int 0))) fun d => optM (blD d)) (bindM (mBin (cmpD fun i j => decide (j ≤ i)) (mVar 2) (mBin powD (retM (.int 10)) (retM (.int 15)))) fun d => optM (blD d))) (bindM (bindM (mVar 2) fun d => bindM (retM []) fun ds => retM (d :: ds)) fun ds => optM (absD ds)) (retM (.int 0))) (setF 5))
  (seqM (retOS (bindM (bindM (mVar 5) fun d => bindM (bindM (mBin modD (bindM (bindM (mBin addL (mVar 3) (mBin mulD (retM (.int 97003)) (mBin modD (bindM (bindM (mVar 2) fun d => bindM (retM []) fun ds => retM (d :: ds)) fun ds => optM (intcD ds)) (retM (.int 999931))))) fun d => bindM (retM []) fun ds => retM (d :: ds)) fun ds => optM (intcD ds)) (retM (.int 2147483549))) fun d => bindM (bindM (retM (.int 0)) fun d => bindM (retM []) fun ds => retM (d :: ds)) fun ds => retM (d :: ds)) fun ds => retM (d :: ds)) fun ds => optM (lstM ds)))
  nxM))))
theorem sc__law_bag : FnScope N__law_bag p__law_bag (defScope s__law_bag) := ⟨rfl, rfl, rfl, by decide +kernel, rfl, by decide +kernel, by decide +kernel⟩
theorem x__law_bag {f : Addr} {fd : FuncData} (F : Fun K "_law_bag" "_law_bag" s__law_bag f fd) (T : Txt K mg)  : FnOk HW.P HW.w K mg base CX0 1 f fd p__law_bag (spM K mg N__law_bag p__law_bag [] m__law_bag) := by
  refine def_ok (k := 0) F sc__law_bag fun cdv A outer s H E hr => ?_
  have nd := sc__law_bag.nd
  exact (ss_cons (s_par (i := 2) (j := 3) rfl rfl (by decide) rfl rfl (la_cons (e_if (b_cmp op_lt rd_cmp (e_var 1) (e_bi call_len cd_len rfl T.len (by decide +kernel) (la_cons (e_var 0) la_nil)) (nobehind _ (by decide) (by decide))) (e_ty call_int1 cd_int rfl T.int (by decide +kernel) (la_cons (e_ix (e_var 0) (e_var 1)) la_nil)) e_int) (la_cons (e_op op_mul rd_mul e_int (e_op op_addL rd_addL (e_var 1) e_int)) la_nil)) (by decide) (by decide) rfl nd)
  (ss_cons (s_forL (e_slA (e_var 0) ip_none (ip_some e_int)) (pg_name (i := 4) nd rfl (by first | exact Or.inl rfl | exact Or.inr rfl)) (tg_name (by decide))
  (ss_cons (s_asg (e_op op_modN rd_mod (e_ty call_int1 cd_int rfl T.int (by decide +kernel) (la_cons (e_op op_addL rd_addL (e_op op_addL rd_addL (e_op op_mul rd_mul (e_var 3) e_int) (e_op op_modN rd_mod (e_ty call_int1 cd_int rfl T.int (by decide +kernel) (la_cons (e_var 4) la_nil)) e_int)) (e_op op_mul rd_mul e_int (e_var 1))) la_nil)) e_int) (pg_name (i := 3) nd rfl (by first | exact Or.inl rfl | exact Or.inr rfl)) (tg_name (by decide)))
  ss_nil) rfl PassesOwn.never)
  (ss_cons (s_asg (e_if (b_w (bw_or (b_cmp op_lt rd_cmp (e_var 2) e_int (nobehind _ (by decide) (by decide))) (bw_o1 (b_cmp op_ge rd_cmp (e_var 2) (e_op op_pow rd_pow e_int e_int) (nobehind _ (by decide) (by decide)))))) (e_bi call_abs cd_abs rfl T.abs (by decide +kernel) (la_cons (e_var 2) la_nil)) e_int) (pg_name (i := 5) nd rfl (by first | exact Or.inl rfl | exact Or.inr rfl)) (tg_name (by decide)))
  (ss_cons (s_retO (o_lst (la_cons (e_var 5) (la_cons (e_op op_modN rd_mod (e_ty call_int1 cd_int rfl T.int (by decide +kernel) (la_cons (e_op op_addL rd_addL (e_var 3) (e_op op_mul rd_mul e_int (e_op op_modN rd_mod (e_ty call_int1 cd_int rfl T.int (by decide +kernel) (la_cons (e_var 2) la_nil)) e_int))) la_nil)) e_int) (la_cons e_int la_nil)))))
  ss_nil))))

abbrev s__law_draw : Stmt := top 32
abbrev N__law_draw : List Str := ["_law_bag_here", "_law_wide", "_law_figure", "_law_held", "_law_times"]
abbrev p__law_draw : List Str := ["_law_bag_here", "_law_wide"]
def m__law_draw : MS := (seqM (putN 0 (retM (.int 2)) (mBin addL (ixN 0 (retM (.int 2))) (retM (.int 1))))
  (seqM (ifS (bindM (mBin (cmpD fun i j => decide (j < i)) (ixN 0 (retM (.int 0))) (retM (.int 0))) fun d => optM (blD d)) (seqM (asgM (mBin modD (bindM (bindM (ixN 0 (retM (.int 0))) fun d => bindM (retM []) fun ds => retM (d :: ds)) fun ds => optM (intcD ds)) (mVar 1)) (setF 2))
  (seqM (putN 0 (retM (.int 0)) (mBin divD (ixN 0 (retM (.int 0))) (mVar 1)))
  (seqM (retMS (mVar 2))
  nxM))) nxM)
  (seqM (asgM (mBin addL (bindM (bindM (ixN 0 (retM (.int 1))) fun d => bindM (retM []) fun ds => retM (d :: ds)) fun ds => optM (intcD ds)) (mBin mulD (retM (.int 61001)) (ixN 0 (retM (.int 2))))) (setF 3))
  (seqM (asgM (mBin addL (mBin modD (bindM (bindM (mVar 3) fun d => bindM (retM []) fun ds => retM (d :: ds)) fun ds => optM (intcD ds)) (retM (.int 58013))) (retM (.int 47017))) (setF 4))
  (seqM (putN 0 (retM (.int 1)) (mBin modD (bindM (bindM (mBin addL (mBin addL (mBin mulD (mVar 3) (mVar 4)) (mBin mulD (retM (.int 11)) (ixN 0 (retM (.int 2))))) (retM (.int 19))) fun d => bindM (retM []) fun ds => retM (d :: ds)) fun ds => optM (intcD ds)) (retM (.int 2147483549))))
  (seqM (retMS (mBin modD (mBin divD (bindM (bindM (ixN 0 (retM (.int 1))) fun d => bindM (retM []) fun ds => retM (d :: ds)) fun ds => optM (intcD ds)) (retM (.int 509))) (mVar 1)))
  nxM))))))
theorem sc__law_draw : FnScope N__law_draw p__law_draw (defScope s__law_draw) := ⟨rfl, rfl, rfl, by decide +kernel, rfl, by decide +kernel, by decide +kernel⟩
theorem x__law_draw {f : Addr} {fd : FuncData} (F : Fun K "_law_draw" "_law_draw" s__law_draw f fd) (T : Txt K mg)  : FnOk HW.P HW.w K mg base CX0 1 f fd p__law_draw (spM K mg N__law_draw p__law_draw [0] m__law_draw) := by
  refine def_ok (k := 0) F sc__law_draw fun cdv A outer s H E hr => ?_
  have nd := sc__law_draw.nd
  exact (ss_cons (s_putN 0 (pv 0) e_int (e_op op_addL rd_addL (e_ixN 0 (pv 0) e_int) e_int))
  (ss_cons (s_if (b_cmp op_gt rd_cmp (e_ixN 0 (pv 0) e_int) e_int (nobehind _ (by decide) (by decide))) (ss_cons (s_asg (e_op op_modN rd_mod (e_ty call_int1 cd_int rfl T.int (by decide +kernel) (la_cons (e_ixN 0 (pv 0) e_int) la_nil)) (e_var 1)) (pg_name (i := 2) nd rfl (by first | exact Or.inl rfl | exact Or.inr rfl)) (tg_name (by decide)))
  (ss_cons (s_putN 0 (pv 0) e_int (e_op op_fdivN rd_div (e_ixN 0 (pv 0) e_int) (e_var 1)))
  (ss_cons (s_ret (e_var 2))
  ss_nil))) ss_nil)
  (ss_cons (s_asg (e_op op_addL rd_addL (e_ty call_int1 cd_int rfl T.int (by decide +kernel) (la_cons (e_ixN 0 (pv 0) e_int) la_nil)) (e_op op_mul rd_mul e_int (e_ixN 0 (pv 0) e_int))) (pg_name (i := 3) nd rfl (by first | exact Or.inl rfl | exact Or.inr rfl)) (tg_name (by decide)))
  (ss_cons (s_asg (e_op op_addL rd_addL (e_op op_modN rd_mod (e_ty call_int1 cd_int rfl T.int (by decide +kernel) (la_cons (e_var 3) la_nil)) e_int) e_int) (pg_name (i := 4) nd rfl (by first | exact Or.inl rfl | exact Or.inr rfl)) (tg_name (by decide)))
  (ss_cons (s_putN 0 (pv 0) e_int (e_op op_modN rd_mod (e_ty call_int1 cd_int rfl T.int (by decide +kernel) (la_cons (e_op op_addL rd_addL (e_op op_addL rd_addL (e_op op_mul rd_mul (e_var 3) (e_var 4)) (e_op op_mul rd_mul e_int (e_ixN 0 (pv 0) e_int))) e_int) la_nil)) e_int))
  (ss_cons (s_ret (e_op op_modN rd_mod (e_op op_fdivN rd_div (e_ty call_int1 cd_int rfl T.int (by decide +kernel) (la_cons (e_ixN 0 (pv 0) e_int) la_nil)) e_int) (e_var 1)))
  ss_nil))))))

abbrev s__law_one : Stmt := top 33
abbrev N__law_one : List Str := ["_law_bag_here", "_law_some"]
abbrev p__law_one : List Str := ["_law_bag_here", "_law_some"]
def m__law_one : MS := (seqM (retMS (mBin atD (mVar 1) (lendD 5 m__law_draw 0 (bindM (bindM (bindM (mVar 1) fun d => bindM (retM []) fun ds => retM (d :: ds)) fun ds => optM (lenD ds)) fun d => bindM (retM []) fun ds => retM (d :: ds)))))
  nxM)
theorem sc__law_one : FnScope N__law_one p__law_one (defScope s__law_one) := ⟨rfl, rfl, rfl, by decide +kernel, rfl, by decide +kernel, by decide +kernel⟩
theorem x__law_one {f : Addr} {fd : FuncData} (F : Fun K "_law_one" "_law_one" s__law_one f fd) (T : Txt K mg) (d__law_draw : DefX HW.P HW.w K mg base 1 "_law_draw" N__law_draw p__law_draw [0] m__law_draw) : FnOk HW.P HW.w K mg base CX0 2 f fd p__law_one (spM K mg N__law_one p__law_one [0] m__law_one) := by
  refine def_ok (k := 1) F sc__law_one fun cdv A outer s H E hr => ?_
  have nd := sc__law_one.nd
  exact (ss_cons (s_ret (e_ix (e_var 1) (e_lendX 0 d__law_draw (hr.mono (by decide)) rfl rfl (pv 0) (la_cons (e_bi call_len cd_len rfl T.len (by decide +kernel) (la_cons (e_var 1) la_nil)) la_nil) (len_cons len_nil) rfl)))
  ss_nil)

abbrev s__law_names : Stmt := top 34
abbrev N__law_names : List Str := ["_law_bag_here", "_law_many", "_law_pool", "_law_k"]
abbrev p__law_names : List Str := ["_law_bag_here", "_law_many"]
def m__law_names : MS := (seqM (asgO (bindM (bindM (retM (.str ("a" : Str))) fun d => bindM (bindM (retM (.str ("b" : Str))) fun d => bindM (bindM (retM (.str ("c" : Str))) fun d => bindM (bindM (retM (.str ("ab" : Str))) fun d => bindM (bindM (retM (.str ("lamp" : Str))) fun d => bindM (bindM (retM (.str ("on" : Str))) fun d => bindM (bindM (retM (.str ("switches" : Str))) fun d => bindM (bindM (retM (.str ("x" : Str))) fun d => bindM (bindM (retM (.str ("abcdefgh" : Str))) fun d => bindM (bindM (retM (.str ("aa" : Str))) fun d => bindM (bindM (retM (.str ("z" : Str))) fun d => bindM (bindM (retM (.str ("not" : Str))) fun d => bindM (bindM (retM (.str ("y" : Str))) fun d => bindM (bindM (retM (.str ("ba" : Str))) fun d => bindM (retM []) fun ds => retM (d :: ds)) fun ds => retM (d :: ds)) fun ds => retM (d :: ds)) fun ds => retM (d :: ds)) fun ds => retM (d :: ds)) fun ds => retM (d :: ds)) fun ds => retM (d :: ds)) fun ds => retM (d :: ds)) fun ds => retM (d :: ds)) fun ds => retM (d :: ds)) fun ds => retM (d :: ds)) fun ds => retM (d :: ds)) fun ds => retM (d :: ds)) fun ds => retM (d :: ds)) fun ds => optM (lstM ds)) 2)
  (seqM (retMS (bindM (bindM (bindM (cplR (bindM (mVar 1) fun d => bindM (retM []) fun ds => retM (d :: ds)) rng1 [3] (setF 3) (retM true) (popN 2 (lendD 5 m__law_draw 0 (bindM (lenN 2) fun d => bindM (retM []) fun ds => retM (d :: ds))))) fun o => retM o.d) fun d => bindM (retM []) fun ds => retM (d :: ds)) fun ds => optM (tupcD ds)))
  nxM))
theorem sc__law_names : FnScope N__law_names p__law_names (defScope s__law_names) := ⟨rfl, rfl, rfl, by decide +kernel, rfl, by decide +kernel, by decide +kernel⟩
theorem x__law_names {f : Addr} {fd : FuncData} (F : Fun K "_law_names" "_law_names" s__law_names f fd) (T : Txt K mg) (d__law_draw : DefX HW.P HW.w K mg base 1 "_law_draw" N__law_draw p__law_draw [0] m__law_draw) : FnOk HW.P HW.w K mg base CX0 2 f fd p__law_names (spM K mg N__law_names p__law_names [0] m__law_names) := by
  refine def_ok (k := 1) F sc__law_names fun cdv A outer s H E hr => ?_
  have nd := sc__law_names.nd
  exact (ss_cons (s_asgO (o_lst (la_cons e_str (la_cons e_str (la_cons e_str (la_cons e_str (la_cons e_str (la_cons e_str (la_cons e_str (la_cons e_str (la_cons e_str (la_cons e_str (la_cons e_str (la_cons e_str (la_cons e_str (la_cons e_str la_nil))))))))))))))) (pg_name (i := 2) nd rfl (by first | exact Or.inl rfl | exact Or.inr rfl)) (by decide))
  (ss_cons (s_ret (e_ty call_tupleF cd_tup rfl T.tuple (by decide +kernel) (la_cons (e_frz (o_lc1 (own := [("_law_k", 3)]) (vs := [3]) rfl rfl nd (la_cons (e_var 1) la_nil) rfl T.range (blkOk_by (N := N__law_names) (sc := defScope s__law_names) (by decide +kernel)) (fun _ _ _ _ _ => (pg_name (i := 3) nd rfl (by first | exact Or.inl rfl | exact Or.inr rfl))) (tg_name (by decide)) (tw_name (by decide)) (fun _ _ _ _ _ => pts_0) (fun _ _ _ _ _ => (e_popN 2 (pv 2) (e_lendX 0 d__law_draw (hr.mono (by decide)) rfl rfl (pv 0) (la_cons (e_lenN 2 (pv 2) rfl T.len) la_nil) (len_cons len_nil) rfl))))) la_nil)))
  ss_nil))

abbrev s__law_holds : Stmt := top 37
abbrev N__law_holds : List Str := ["_law_names_here", "_law_literal", "_law_setting"]
abbrev p__law_holds : List Str := ["_law_names_here", "_law_literal", "_law_setting"]
def m__law_holds : MS := (seqM (retMS (mBin (eqD false) (mBin atD (mVar 2) (mBin tixD (mVar 0) (mBin atD (mVar 1) (retM (.int 0))))) (mBin atD (mVar 1) (retM (.int 1)))))
  nxM)
theorem sc__law_holds : FnScope N__law_holds p__law_holds (defScope s__law_holds) := ⟨rfl, rfl, rfl, by decide +kernel, rfl, by decide +kernel, by decide +kernel⟩
theorem x__law_holds {f : Addr} {fd : FuncData} (F : Fun K "_law_holds" "_law_holds" s__law_holds f fd) (T : Txt K mg)  : FnOk HW.P HW.w K mg base CX0 1 f fd p__law_holds (spM K mg N__law_holds p__law_holds [] m__law_holds) := by
  refine def_ok (k := 0) F sc__law_holds fun cdv A outer s H E hr => ?_
  have nd := sc__law_holds.nd
  exact (ss_cons (s_ret (e_cmp (op_eqD hr.units) rd_eq (e_ix (e_var 2) (e_tix (e_var 0) (e_ix (e_var 1) e_int))) (e_ix (e_var 1) e_int) (nobehind _ (by decide) (by decide))))
  ss_nil)

abbrev s__law_keeps : Stmt := top 38
abbrev N__law_keeps : List Str := ["_law_names_here", "_law_rule_here", "_law_setting", "_law_near", "_law_far"]
abbrev p__law_keeps : List Str := ["_law_names_here", "_law_rule_here", "_law_setting"]
def m__law_keeps : MS := (seqM (ifS (bindM (mBin (eqD false) (mBin atD (mVar 1) (retM (.int 0))) (retM (.str ("be" : Str)))) fun d => optM (blD d)) (seqM (retMS (callD 3 m__law_holds (bindM (mVar 0) fun d => bindM (bindM (mBin atD (mVar 1) (retM (.int 1))) fun d => bindM (bindM (mVar 2) fun d => bindM (retM []) fun ds => retM (d :: ds)) fun ds => retM (d :: ds)) fun ds => retM (d :: ds)) []))
  nxM) nxM)
  (seqM (ifS (bindM (mBin (inD false) (mBin atD (mVar 1) (retM (.int 0))) (bindM (bindM (bindM (retM (.str ("same" : Str))) fun d => bindM (bindM (retM (.str ("unlike" : Str))) fun d => bindM (retM []) fun ds => retM (d :: ds)) fun ds => retM (d :: ds)) fun ds => optM (lstM ds)) fun o => retM o.d)) fun d => optM (blD d)) (seqM (asgM (mBin atD (mVar 2) (mBin tixD (mVar 0) (mBin atD (mVar 1) (retM (.int 1))))) (setF 3))
  (seqM (asgM (mBin atD (mVar 2) (mBin tixD (mVar 0) (mBin atD (mVar 1) (retM (.int 2))))) (setF 4))
  (seqM (retMS (mBin (eqD false) (mBin (eqD false) (mVar 3) (mVar 4)) (mBin (eqD false) (mBin atD (mVar 1) (retM (.int 0))) (retM (.str ("same" : Str))))))
  nxM))) nxM)
  (seqM (parM 3 4 (bindM (callD 3 m__law_holds (bindM (mVar 0) fun d => bindM (bindM (mBin atD (mVar 1) (retM (.int 1))) fun d => bindM (bindM (mVar 2) fun d => bindM (retM []) fun ds => retM (d :: ds)) fun ds => retM (d :: ds)) fun ds => retM (d :: ds)) []) fun d => bindM (bindM (callD 3 m__law_holds (bindM (mVar 0) fun d => bindM (bindM (mBin atD (mVar 1) (retM (.int 2))) fun d => bindM (bindM (mVar 2) fun d => bindM (retM []) fun ds => retM (d :: ds)) fun ds => retM (d :: ds)) fun ds => retM (d :: ds)) []) fun d => bindM (retM []) fun ds => retM (d :: ds)) fun ds => retM (d :: ds)))
  (seqM (ifS (bindM (mBin (eqD false) (mBin atD (mVar 1) (retM (.int 0))) (retM (.str ("either" : Str)))) fun d => optM (blD d)) (seqM (retMS (orV (mVar 3) (mVar 4)))
  nxM) nxM)
  (seqM (retMS (ifM (bindM (mBin (eqD false) (mBin atD (mVar 1) (retM (.int 0))) (retM (.str ("needs" : Str)))) fun d => optM (blD d)) (orV (bindM (mVar 3) fun d => optM (notD d)) (mVar 4)) (bindM (andV (mVar 3) (mVar 4)) fun d => optM (notD d))))
  nxM)))))
theorem sc__law_keeps : FnScope N__law_keeps p__law_keeps (defScope s__law_keeps) := ⟨rfl, rfl, rfl, by decide +kernel, rfl, by decide +kernel, by decide +kernel⟩
theorem x__law_keeps {f : Addr} {fd : FuncData} (F : Fun K "_law_keeps" "_law_keeps" s__law_keeps f fd) (T : Txt K mg) (d__law_holds : DefX HW.P HW.w K mg base 1 "_law_holds" N__law_holds p__law_holds [] m__law_holds) : FnOk HW.P HW.w K mg base CX0 2 f fd p__law_keeps (spM K mg N__law_keeps p__law_keeps [] m__law_keeps) := by
  refine def_ok (k := 1) F sc__law_keeps fun cdv A outer s H E hr => ?_
  have nd := sc__law_keeps.nd
  exact (ss_cons (s_if (b_cmp (op_eqD hr.units) rd_eq (e_ix (e_var 1) e_int) e_str (nobehind _ (by decide) (by decide))) (ss_cons (s_ret (e_callX d__law_holds (hr.mono (by decide)) rfl rfl (la_cons (e_var 0) (la_cons (e_ix (e_var 1) e_int) (la_cons (e_var 2) la_nil))) (len_cons (len_cons (len_cons len_nil))) rfl))
  ss_nil) ss_nil)
  (ss_cons (s_if (b_cmp op_inA rd_in (e_ix (e_var 1) e_int) (e_frz (o_lst (la_cons e_str (la_cons e_str la_nil)))) (by rfl)) (ss_cons (s_asg (e_ix (e_var 2) (e_tix (e_var 0) (e_ix (e_var 1) e_int))) (pg_name (i := 3) nd rfl (by first | exact Or.inl rfl | exact Or.inr rfl)) (tg_name (by decide)))
  (ss_cons (s_asg (e_ix (e_var 2) (e_tix (e_var 0) (e_ix (e_var 1) e_int))) (pg_name (i := 4) nd rfl (by first | exact Or.inl rfl | exact Or.inr rfl)) (tg_name (by decide)))
  (ss_cons (s_ret (e_cmp (op_eqD hr.units) rd_eq (e_cmp (op_eqD hr.units) rd_eq (e_var 3) (e_var 4) (nobehind _ (by decide) (by decide))) (e_cmp (op_eqD hr.units) rd_eq (e_ix (e_var 1) e_int) e_str (nobehind _ (by decide) (by decide))) (nobehind _ (by decide) (by decide))))
  ss_nil))) ss_nil)
  (ss_cons (s_par (i := 3) (j := 4) rfl rfl (by decide) rfl rfl (la_cons (e_callX d__law_holds (hr.mono (by decide)) rfl rfl (la_cons (e_var 0) (la_cons (e_ix (e_var 1) e_int) (la_cons (e_var 2) la_nil))) (len_cons (len_cons (len_cons len_nil))) rfl) (la_cons (e_callX d__law_holds (hr.mono (by decide)) rfl rfl (la_cons (e_var 0) (la_cons (e_ix (e_var 1) e_int) (la_cons (e_var 2) la_nil))) (len_cons (len_cons (len_cons len_nil))) rfl) la_nil)) (by decide) (by decide) rfl nd)
  (ss_cons (s_if (b_cmp (op_eqD hr.units) rd_eq (e_ix (e_var 1) e_int) e_str (nobehind _ (by decide) (by decide))) (ss_cons (s_ret (e_or (e_var 3) (e_1 (e_var 4))))
  ss_nil) ss_nil)
  (ss_cons (s_ret (e_if (b_cmp (op_eqD hr.units) rd_eq (e_ix (e_var 1) e_int) e_str (nobehind _ (by decide) (by decide))) (e_or (e_not (e_var 3)) (e_1 (e_var 4))) (e_not (e_and (e_var 3) (e_1 (e_var 4))))))
  ss_nil)))))

abbrev s__law_rule : Stmt := top 35
abbrev N__law_rule : List Str := ["_law_bag_here", "_law_names_here", "_law_base", "_law_off", "_law_turn", "_law_word", "_law_rule_here", "_law_x", "_law_y", "_law_near", "_law_far"]
abbrev p__law_rule : List Str := ["_law_bag_here", "_law_names_here", "_law_base", "_law_off"]
def m__law_rule : MS := (seqM (forR (bindM (retM (.int 30)) fun d => bindM (retM []) fun ds => retM (d :: ds)) rng1 (setF 4)
  (seqM (parM 7 8 (bindM (lendD 5 m__law_draw 0 (bindM (bindM (bindM (mVar 1) fun d => bindM (retM []) fun ds => retM (d :: ds)) fun ds => optM (lenD ds)) fun d => bindM (retM []) fun ds => retM (d :: ds))) fun d => bindM (bindM (lendD 5 m__law_draw 0 (bindM (bindM (bindM (mVar 1) fun d => bindM (retM []) fun ds => retM (d :: ds)) fun ds => optM (lenD ds)) fun d => bindM (retM []) fun ds => retM (d :: ds))) fun d => bindM (retM []) fun ds => retM (d :: ds)) fun ds => retM (d :: ds)))
  (seqM (parM 9 10 (bindM (bindM (bindM (mBin atD (mVar 1) (mVar 7)) fun d => bindM (bindM (mBin atD (retM (.str ("+-" : Str))) (lendD 5 m__law_draw 0 (bindM (retM (.int 2)) fun d => bindM (retM []) fun ds => retM (d :: ds)))) fun d => bindM (retM []) fun ds => retM (d :: ds)) fun ds => retM (d :: ds)) fun ds => optM (tupM ds)) fun d => bindM (bindM (bindM (bindM (mBin atD (mVar 1) (mVar 8)) fun d => bindM (bindM (mBin atD (retM (.str ("+-" : Str))) (lendD 5 m__law_draw 0 (bindM (retM (.int 2)) fun d => bindM (retM []) fun ds => retM (d :: ds)))) fun d => bindM (retM []) fun ds => retM (d :: ds)) fun ds => retM (d :: ds)) fun ds => optM (tupM ds)) fun d => bindM (retM []) fun ds => retM (d :: ds)) fun ds => retM (d :: ds)))
  (seqM (asgM (lendD 2 m__law_one 0 (bindM (bindM (bindM (bindM (retM (.str ("either" : Str))) fun d => bindM (bindM (retM (.str ("needs" : Str))) fun d => bindM (bindM (retM (.str ("needs" : Str))) fun d => bindM (bindM (retM (.str ("bars" : Str))) fun d => bindM (bindM (retM (.str ("same" : Str))) fun d => bindM (bindM (retM (.str ("unlike" : Str))) fun d => bindM (bindM (retM (.str ("be" : Str))) fun d => bindM (retM []) fun ds => retM (d :: ds)) fun ds => retM (d :: ds)) fun ds => retM (d :: ds)) fun ds => retM (d :: ds)) fun ds => retM (d :: ds)) fun ds => retM (d :: ds)) fun ds => retM (d :: ds)) fun ds => optM (lstM ds)) fun o => retM o.d) fun d => bindM (retM []) fun ds => retM (d :: ds))) (setF 5))
  (seqM (asgM (ifM (bindM (mBin (inD false) (mVar 5) (bindM (bindM (bindM (retM (.str ("same" : Str))) fun d => bindM (bindM (retM (.str ("unlike" : Str))) fun d => bindM (retM []) fun ds => retM (d :: ds)) fun ds => retM (d :: ds)) fun ds => optM (lstM ds)) fun o => retM o.d)) fun d => optM (blD d)) (bindM (bindM (mVar 5) fun d => bindM (bindM (mBin atD (mVar 1) (mVar 7)) fun d => bindM (bindM (mBin atD (mVar 1) (mVar 8)) fun d => bindM (retM []) fun ds => retM (d :: ds)) fun ds => retM (d :: ds)) fun ds => retM (d :: ds)) fun ds => optM (tupM ds)) (bindM (bindM (mVar 5) fun d => bindM (bindM (mVar 9) fun d => bindM (bindM (mVar 10) fun d => bindM (retM []) fun ds => retM (d :: ds)) fun ds => retM (d :: ds)) fun ds => retM (d :: ds)) fun ds => optM (tupM ds))) (setF 6))
  (seqM (asgM (ifM (orB (bindM (mBin (eqD false) (mVar 5) (retM (.str ("be" : Str)))) fun d => optM (blD d)) (bindM (mBin (eqD false) (mVar 7) (mVar 8)) fun d => optM (blD d))) (bindM (bindM (retM (.str ("be" : Str))) fun d => bindM (bindM (mVar 9) fun d => bindM (retM []) fun ds => retM (d :: ds)) fun ds => retM (d :: ds)) fun ds => optM (tupM ds)) (mVar 6)) (setF 6))
  (seqM (ifS (orB (bindM (mBin (eqD false) (mVar 3) (retM (.int 1))) fun d => optM (blD d)) (bindM (callD 5 m__law_keeps (bindM (mVar 1) fun d => bindM (bindM (mVar 6) fun d => bindM (bindM (mVar 2) fun d => bindM (retM []) fun ds => retM (d :: ds)) fun ds => retM (d :: ds)) fun ds => retM (d :: ds)) []) fun d => optM (truD d))) (seqM (retMS (mVar 6))
  nxM) nxM)
  nxM)))))))
  (seqM (retMS (bindM (bindM (retM (.str ("be" : Str))) fun d => bindM (bindM (bindM (bindM (mBin atD (mVar 1) (retM (.int 0))) fun d => bindM (bindM (mBin atD (mVar 2) (retM (.int 0))) fun d => bindM (retM []) fun ds => retM (d :: ds)) fun ds => retM (d :: ds)) fun ds => optM (tupM ds)) fun d => bindM (retM []) fun ds => retM (d :: ds)) fun ds => retM (d :: ds)) fun ds => optM (tupM ds)))
  nxM))
theorem sc__law_rule : FnScope N__law_rule p__law_rule (defScope s__law_rule) := ⟨rfl, rfl, rfl, by decide +kernel, rfl, by decide +kernel, by decide +kernel⟩
theorem x__law_rule {f : Addr} {fd : FuncData} (F : Fun K "_law_rule" "_law_rule" s__law_rule f fd) (T : Txt K mg) (d__law_draw : DefX HW.P HW.w K mg base 1 "_law_draw" N__law_draw p__law_draw [0] m__law_draw) (d__law_one : DefX HW.P HW.w K mg base 2 "_law_one" N__law_one p__law_one [0] m__law_one) (d__law_keeps : DefX HW.P HW.w K mg base 2 "_law_keeps" N__law_keeps p__law_keeps [] m__law_keeps) : FnOk HW.P HW.w K mg base CX0 3 f fd p__law_rule (spM K mg N__law_rule p__law_rule [0] m__law_rule) := by
  refine def_ok (k := 2) F sc__law_rule fun cdv A outer s H E hr => ?_
  have nd := sc__law_rule.nd
  exact (ss_cons (s_for1 (la_cons e_int la_nil) rfl T.range (pg_name (i := 4) nd rfl (by first | exact Or.inl rfl | exact Or.inr rfl)) (tg_name (by decide))
  (ss_cons (s_par (i := 7) (j := 8) rfl rfl (by decide) rfl rfl (la_cons (e_lendX 0 d__law_draw (hr.mono (by decide)) rfl rfl (pv 0) (la_cons (e_bi call_len cd_len rfl T.len (by decide +kernel) (la_cons (e_var 1) la_nil)) la_nil) (len_cons len_nil) rfl) (la_cons (e_lendX 0 d__law_draw (hr.mono (by decide)) rfl rfl (pv 0) (la_cons (e_bi call_len cd_len rfl T.len (by decide +kernel) (la_cons (e_var 1) la_nil)) la_nil) (len_cons len_nil) rfl) la_nil)) (by decide) (by decide) rfl nd)
  (ss_cons (s_par (i := 9) (j := 10) rfl rfl (by decide) rfl rfl (la_cons (e_tup (la_cons (e_ix (e_var 1) (e_var 7)) (la_cons (e_ix e_str (e_lendX 0 d__law_draw (hr.mono (by decide)) rfl rfl (pv 0) (la_cons e_int la_nil) (len_cons len_nil) rfl)) la_nil))) (la_cons (e_tup (la_cons (e_ix (e_var 1) (e_var 8)) (la_cons (e_ix e_str (e_lendX 0 d__law_draw (hr.mono (by decide)) rfl rfl (pv 0) (la_cons e_int la_nil) (len_cons len_nil) rfl)) la_nil))) la_nil)) (by decide) (by decide) rfl nd)
  (ss_cons (s_asg (e_lendX 0 d__law_one (hr.mono (by decide)) rfl rfl (pv 0) (la_cons (e_frz (o_lst (la_cons e_str (la_cons e_str (la_cons e_str (la_cons e_str (la_cons e_str (la_cons e_str (la_cons e_str la_nil))))))))) la_nil) (len_cons len_nil) rfl) (pg_name (i := 5) nd rfl (by first | exact Or.inl rfl | exact Or.inr rfl)) (tg_name (by decide)))
  (ss_cons (s_asg (e_if (b_cmp op_inA rd_in (e_var 5) (e_frz (o_lst (la_cons e_str (la_cons e_str la_nil)))) (by rfl)) (e_tup (la_cons (e_var 5) (la_cons (e_ix (e_var 1) (e_var 7)) (la_cons (e_ix (e_var 1) (e_var 8)) la_nil)))) (e_tup (la_cons (e_var 5) (la_cons (e_var 9) (la_cons (e_var 10) la_nil))))) (pg_name (i := 6) nd rfl (by first | exact Or.inl rfl | exact Or.inr rfl)) (tg_name (by decide)))
  (ss_cons (s_asg (e_if (b_w (bw_or (b_cmp (op_eqD hr.units) rd_eq (e_var 5) e_str (nobehind _ (by decide) (by decide))) (bw_o1 (b_cmp (op_eqD hr.units) rd_eq (e_var 7) (e_var 8) (nobehind _ (by decide) (by decide)))))) (e_tup (la_cons e_str (la_cons (e_var 9) la_nil))) (e_var 6)) (pg_name (i := 6) nd rfl (by first | exact Or.inl rfl | exact Or.inr rfl)) (tg_name (by decide)))
  (ss_cons (s_if (b_w (bw_or (b_cmp (op_eqD hr.units) rd_eq (e_var 3) e_int (nobehind _ (by decide) (by decide))) (bw_o1 (b_tru (e_callX d__law_keeps (hr.mono (by decide)) rfl rfl (la_cons (e_var 1) (la_cons (e_var 6) (la_cons (e_var 2) la_nil))) (len_cons (len_cons (len_cons len_nil))) rfl))))) (ss_cons (s_ret (e_var 6))
  ss_nil) ss_nil)
  ss_nil)))))) rfl PassesOwn.never)
  (ss_cons (s_ret (e_tup (la_cons e_str (la_cons (e_tup (la_cons (e_ix (e_var 1) e_int) (la_cons (e_ix (e_var 2) e_int) la_nil))) la_nil))))
  ss_nil))

abbrev s__law_panel : Stmt := top 36
abbrev N__law_panel : List Str := ["_law_bag_here", "_law_wide", "_law_most", "_law_names_here", "_law_base", "_law_name", "_law_found", "_law_k"]
abbrev p__law_panel : List Str := ["_law_bag_here", "_law_wide", "_law_most"]
def m__law_panel : MS := (seqM (asgM (lendD 4 m__law_names 0 (bindM (mBin addL (retM (.int 1)) (lendD 5 m__law_draw 0 (bindM (mVar 1) fun d => bindM (retM []) fun ds => retM (d :: ds)))) fun d => bindM (retM []) fun ds => retM (d :: ds))) (setF 3))
  (seqM (asgM (mBin joinD (retM (.str ("" : Str))) (bindM (cplL (mVar 3) [5] (setF 5) (retM true) (mBin atD (retM (.str ("+-" : Str))) (lendD 5 m__law_draw 0 (bindM (retM (.int 2)) fun d => bindM (retM []) fun ds => retM (d :: ds))))) fun o => retM o.d)) (setF 4))
  (seqM (asgO (cplR (bindM (lendD 5 m__law_draw 0 (bindM (mBin addL (mVar 2) (retM (.int 1))) fun d => bindM (retM []) fun ds => retM (d :: ds))) fun d => bindM (retM []) fun ds => retM (d :: ds)) rng1 [7] (setF 7) (retM true) (lendD 11 m__law_rule 0 (bindM (mVar 3) fun d => bindM (bindM (mVar 4) fun d => bindM (bindM (retM (.int 0)) fun d => bindM (retM []) fun ds => retM (d :: ds)) fun ds => retM (d :: ds)) fun ds => retM (d :: ds)))) 6)
  (seqM (ifS (bindM (mBin (eqD false) (lendD 5 m__law_draw 0 (bindM (retM (.int 8)) fun d => bindM (retM []) fun ds => retM (d :: ds))) (retM (.int 0))) fun d => optM (blD d)) (seqM (appN 6 (lendD 11 m__law_rule 0 (bindM (mVar 3) fun d => bindM (bindM (mVar 4) fun d => bindM (bindM (retM (.int 1)) fun d => bindM (retM []) fun ds => retM (d :: ds)) fun ds => retM (d :: ds)) fun ds => retM (d :: ds))))
  nxM) nxM)
  (seqM (retOS (bindM (bindM (mVar 3) fun d => bindM (bindM (bindM (bindM (frzN 6) fun d => bindM (retM []) fun ds => retM (d :: ds)) fun ds => optM (tupcD ds)) fun d => bindM (bindM (mVar 4) fun d => bindM (retM []) fun ds => retM (d :: ds)) fun ds => retM (d :: ds)) fun ds => retM (d :: ds)) fun ds => optM (lstM ds)))
  nxM)))))
theorem sc__law_panel : FnScope N__law_panel p__law_panel (defScope s__law_panel) := ⟨rfl, rfl, rfl, by decide +kernel, rfl, by decide +kernel, by decide +kernel⟩
theorem x__law_panel {f : Addr} {fd : FuncData} (F : Fun K "_law_panel" "_law_panel" s__law_panel f fd) (T : Txt K mg) (d__law_names : DefX HW.P HW.w K mg base 2 "_law_names" N__law_names p__law_names [0] m__law_names) (d__law_draw : DefX HW.P HW.w K mg base 1 "_law_draw" N__law_draw p__law_draw [0] m__law_draw) (d__law_rule : DefX HW.P HW.w K mg base 3 "_law_rule" N__law_rule p__law_rule [0] m__law_rule) : FnOk HW.P HW.w K mg base CX0 4 f fd p__law_panel (spM K mg N__law_panel p__law_panel [0] m__law_panel) := by
  refine def_ok (k := 3) F sc__law_panel fun cdv A outer s H E hr => ?_
  have nd := sc__law_panel.nd
  exact (ss_cons (s_asg (e_lendX 0 d__law_names (hr.mono (by decide)) rfl rfl (pv 0) (la_cons (e_op op_addL rd_addL e_int (e_lendX 0 d__law_draw (hr.mono (by decide)) rfl rfl (pv 0) (la_cons (e_var 1) la_nil) (len_cons len_nil) rfl)) la_nil) (len_cons len_nil) rfl) (pg_name (i := 3) nd rfl (by first | exact Or.inl rfl | exact Or.inr rfl)) (tg_name (by decide)))
  (ss_cons (s_asg (e_join e_str (e_frz (o_lcL (own := [("_law_name", 5)]) (vs := [5]) rfl rfl nd (e_var 3) (blkOk_by (N := N__law_panel) (sc := defScope s__law_panel) (by decide +kernel)) (fun _ _ _ _ _ => (pg_name (i := 5) nd rfl (by first | exact Or.inl rfl | exact Or.inr rfl))) (tg_name (by decide)) (tw_name (by decide)) (fun _ _ _ _ _ => pts_0) (fun _ _ _ _ _ => (e_ix e_str (e_lendX 0 d__law_draw (hr.mono (by decide)) rfl rfl (pv 0) (la_cons e_int la_nil) (len_cons len_nil) rfl)))))) (pg_name (i := 4) nd rfl (by first | exact Or.inl rfl | exact Or.inr rfl)) (tg_name (by decide)))
  (ss_cons (s_setLc1 (own := [("_law_k", 7)]) (vs := [7]) rfl rfl nd (la_cons (e_lendX 0 d__law_draw (hr.mono (by decide)) rfl rfl (pv 0) (la_cons (e_op op_addL rd_addL (e_var 2) e_int) la_nil) (len_cons len_nil) rfl) la_nil) rfl T.range (blkOk_by (N := N__law_panel) (sc := defScope s__law_panel) (by decide +kernel)) (fun _ _ _ _ _ => (pg_name (i := 7) nd rfl (by first | exact Or.inl rfl | exact Or.inr rfl))) (tg_name (by decide)) (tw_name (by decide)) (fun _ _ _ _ _ => pts_0) (fun _ _ _ _ _ => (e_lendX 0 d__law_rule (hr.mono (by decide)) rfl rfl (pv 0) (la_cons (e_var 3) (la_cons (e_var 4) (la_cons e_int la_nil))) (len_cons (len_cons (len_cons len_nil))) rfl)) rfl rfl (by decide))
  (ss_cons (s_if (b_cmp (op_eqD hr.units) rd_eq (e_lendX 0 d__law_draw (hr.mono (by decide)) rfl rfl (pv 0) (la_cons e_int la_nil) (len_cons len_nil) rfl) e_int (nobehind _ (by decide) (by decide))) (ss_cons (s_appN 6 (pv 6) (e_lendX 0 d__law_rule (hr.mono (by decide)) rfl rfl (pv 0) (la_cons (e_var 3) (la_cons (e_var 4) (la_cons e_int la_nil))) (len_cons (len_cons (len_cons len_nil))) rfl))
  ss_nil) ss_nil)
  (ss_cons (s_retO (o_lst (la_cons (e_var 3) (la_cons (e_ty call_tupleF cd_tup rfl T.tuple (by decide +kernel) (la_cons (e_frzN 6 (pv 6)) la_nil)) (la_cons (e_var 4) la_nil)))))
  ss_nil)))))

end
end Fli
set_option Elab.async false
set_option linter.all false
set_option maxRecDepth 100000
set_option maxHeartbeats 8000000
namespace Fli
open PySem L2
section
variable [HW] {K : PySem.W.Frag} {mg : Str → Option Value} {base : Heap}
abbrev s_is_name : Stmt := top 16
abbrev N_is_name : List Str := ["value", "letter"]
abbrev p_is_name : List Str := ["value"]
def m_is_name : MS := (seqM (ifS (orB (bindM (bindM (bindM (mVar 0) fun d => optM (isB "str" d)) fun d => optM (truD d)) fun k => retM !k) (bindM (mBin (inD false) (mVar 0) (retM k_WORDS)) fun d => optM (blD d))) (seqM (retMS (retM (.bl false)))
  nxM) nxM)
  (seqM (retMS (andV (chM (cmpD fun i j => decide (i ≤ j)) (cmpD fun i j => decide (i ≤ j)) (retM (.int 1)) (bindM (bindM (mVar 0) fun d => bindM (retM []) fun ds => retM (d :: ds)) fun ds => optM (lenD ds)) (retM k_MOST_NAME)) (bindM (bindM (bindM (cplL (mVar 0) [1] (setF 1) (retM true) (mBin (inD false) (mVar 1) (retM k_LETTERS))) fun o => retM o.d) fun d => bindM (retM []) fun ds => retM (d :: ds)) fun ds => optM (allD ds))))
  nxM))
theorem sc_is_name : FnScope N_is_name p_is_name (defScope s_is_name) := ⟨rfl, rfl, rfl, by decide +kernel, rfl, by decide +kernel, by decide +kernel⟩
theorem x_is_name {f : Addr} {fd : FuncData} (F : Fun K "is_name" "is_name" s_is_name f fd) (T : Txt K mg) (c_WORDS : ConD K mg "WORDS" k_WORDS) (c_LETTERS : ConD K mg "LETTERS" k_LETTERS) (c_MOST_NAME : ConD K mg "MOST_NAME" k_MOST_NAME) : FnOk HW.P HW.w K mg base CX0 1 f fd p_is_name (spM K mg N_is_name p_is_name [] m_is_name) := by
  refine def_ok (k := 0) F sc_is_name fun cdv A outer s H E hr => ?_
  have nd := sc_is_name.nd
  exact (ss_cons (s_if (b_w (bw_or (b_not (b_tru (e_isB (e_var 0) rfl T.isinstance (pe_bltn rfl T.str (by decide +kernel) rfl)))) (bw_o1 (b_cmp op_inA rd_in (e_var 0) (ConD.dE c_WORDS rfl) (by rfl))))) (ss_cons (s_ret e_bl)
  ss_nil) ss_nil)
  (ss_cons (s_ret (e_and (e_chain op_le op_le rd_cmp rd_cmp e_int (e_bi call_len cd_len rfl T.len (by decide +kernel) (la_cons (e_var 0) la_nil)) (ConD.dE c_MOST_NAME rfl)) (e_1 (e_bi (cr_all rfl) cd_all rfl T.all (by decide +kernel) (la_cons (e_frz (o_lcL (own := [("letter", 1)]) (vs := [1]) rfl rfl nd (e_var 0) (blkOk_by (N := N_is_name) (sc := defScope s_is_name) (by decide +kernel)) (fun _ _ _ _ _ => (pg_name (i := 1) nd rfl (by first | exact Or.inl rfl | exact Or.inr rfl))) (tg_name (by decide)) (tw_name (by decide)) (fun _ _ _ _ _ => pts_0) (fun _ _ _ _ _ => (e_cmp op_inA rd_in (e_var 1) (ConD.dE c_LETTERS rfl) (by rfl))))) la_nil)))))
  ss_nil))

abbrev s_is_switch : Stmt := top 17
abbrev N_is_switch : List Str := ["switches", "value"]
abbrev p_is_switch : List Str := ["switches", "value"]
def m_is_switch : MS := (seqM (retMS (andV (bindM (mVar 1) fun d => optM (isB "str" d)) (mBin (inD false) (mVar 1) (mVar 0))))
  nxM)
theorem sc_is_switch : FnScope N_is_switch p_is_switch (defScope s_is_switch) := ⟨rfl, rfl, rfl, by decide +kernel, rfl, by decide +kernel, by decide +kernel⟩
theorem x_is_switch {f : Addr} {fd : FuncData} (F : Fun K "is_switch" "is_switch" s_is_switch f fd) (T : Txt K mg)  : FnOk HW.P HW.w K mg base CX0 1 f fd p_is_switch (spM K mg N_is_switch p_is_switch [] m_is_switch) := by
  refine def_ok (k := 0) F sc_is_switch fun cdv A outer s H E hr => ?_
  have nd := sc_is_switch.nd
  exact (ss_cons (s_ret (e_and (e_isB (e_var 1) rfl T.isinstance (pe_bltn rfl T.str (by decide +kernel) rfl)) (e_1 (e_cmp op_inA rd_in (e_var 1) (e_var 0) (by rfl)))))
  ss_nil)

abbrev s_is_sign : Stmt := top 18
abbrev N_is_sign : List Str := ["value"]
abbrev p_is_sign : List Str := ["value"]
def m_is_sign : MS := (seqM (retMS (andV (bindM (mVar 0) fun d => optM (isB "str" d)) (mBin (inD false) (mVar 0) (retM k_SIGNS))))
  nxM)
theorem sc_is_sign : FnScope N_is_sign p_is_sign (defScope s_is_sign) := ⟨rfl, rfl, rfl, by decide +kernel, rfl, by decide +kernel, by decide +kernel⟩
theorem x_is_sign {f : Addr} {fd : FuncData} (F : Fun K "is_sign" "is_sign" s_is_sign f fd) (T : Txt K mg) (c_SIGNS : ConD K mg "SIGNS" k_SIGNS) : FnOk HW.P HW.w K mg base CX0 1 f fd p_is_sign (spM K mg N_is_sign p_is_sign [] m_is_sign) := by
  refine def_ok (k := 0) F sc_is_sign fun cdv A outer s H E hr => ?_
  have nd := sc_is_sign.nd
  exact (ss_cons (s_ret (e_and (e_isB (e_var 0) rfl T.isinstance (pe_bltn rfl T.str (by decide +kernel) rfl)) (e_1 (e_cmp op_inA rd_in (e_var 0) (ConD.dE c_SIGNS rfl) (by rfl)))))
  ss_nil)

abbrev s_is_literal : Stmt := top 19
abbrev N_is_literal : List Str := ["switches", "value"]
abbrev p_is_literal : List Str := ["switches", "value"]
def m_is_literal : MS := (seqM (ifS (orB (bindM (bindM (bindM (mVar 1) fun d => optM (isB "tuple" d)) fun d => optM (truD d)) fun k => retM !k) (bindM (mBin (eqD true) (bindM (bindM (mVar 1) fun d => bindM (retM []) fun ds => retM (d :: ds)) fun ds => optM (lenD ds)) (retM (.int 2))) fun d => optM (blD d))) (seqM (retMS (retM (.bl false)))
  nxM) nxM)
  (seqM (retMS (andV (callD 2 m_is_switch (bindM (mVar 0) fun d => bindM (bindM (mBin atD (mVar 1) (retM (.int 0))) fun d => bindM (retM []) fun ds => retM (d :: ds)) fun ds => retM (d :: ds)) []) (callD 1 m_is_sign (bindM (mBin atD (mVar 1) (retM (.int 1))) fun d => bindM (retM []) fun ds => retM (d :: ds)) [])))
  nxM))
theorem sc_is_literal : FnScope N_is_literal p_is_literal (defScope s_is_literal) := ⟨rfl, rfl, rfl, by decide +kernel, rfl, by decide +kernel, by decide +kernel⟩
theorem x_is_literal {f : Addr} {fd : FuncData} (F : Fun K "is_literal" "is_literal" s_is_literal f fd) (T : Txt K mg) (d_is_sign : DefX HW.P HW.w K mg base 1 "is_sign" N_is_sign p_is_sign [] m_is_sign) (d_is_switch : DefX HW.P HW.w K mg base 1 "is_switch" N_is_switch p_is_switch [] m_is_switch) : FnOk HW.P HW.w K mg base CX0 2 f fd p_is_literal (spM K mg N_is_literal p_is_literal [] m_is_literal) := by
  refine def_ok (k := 1) F sc_is_literal fun cdv A outer s H E hr => ?_
  have nd := sc_is_literal.nd
  exact (ss_cons (s_if (b_w (bw_or (b_not (b_tru (e_isB (e_var 1) rfl T.isinstance (pe_bltn rfl T.tuple (by decide +kernel) rfl)))) (bw_o1 (b_cmp (op_neD hr.units) rd_ne (e_bi call_len cd_len rfl T.len (by decide +kernel) (la_cons (e_var 1) la_nil)) e_int (nobehind _ (by decide) (by decide)))))) (ss_cons (s_ret e_bl)
  ss_nil) ss_nil)
  (ss_cons (s_ret (e_and (e_callX d_is_switch (hr.mono (by decide)) rfl rfl (la_cons (e_var 0) (la_cons (e_ix (e_var 1) e_int) la_nil)) (len_cons (len_cons len_nil)) rfl) (e_1 (e_callX d_is_sign (hr.mono (by decide)) rfl rfl (la_cons (e_ix (e_var 1) e_int) la_nil) (len_cons len_nil) rfl))))
  ss_nil))

abbrev s_is_rule : Stmt := top 20
abbrev N_is_rule : List Str := ["switches", "value", "word", "first", "second"]
abbrev p_is_rule : List Str := ["switches", "value"]
def m_is_rule : MS := (seqM (ifS (orB (bindM (bindM (bindM (mVar 1) fun d => optM (isB "tuple" d)) fun d => optM (truD d)) fun k => retM !k) (orB (bindM (bindM (chM (cmpD fun i j => decide (i ≤ j)) (cmpD fun i j => decide (i ≤ j)) (retM (.int 2)) (bindM (bindM (mVar 1) fun d => bindM (retM []) fun ds => retM (d :: ds)) fun ds => optM (lenD ds)) (retM (.int 3))) fun d => optM (blD d)) fun k => retM !k) (bindM (bindM (bindM (mBin atD (mVar 1) (retM (.int 0))) fun d => optM (isB "str" d)) fun d => optM (truD d)) fun k => retM !k))) (seqM (retMS (retM (.bl false)))
  nxM) nxM)
  (seqM (ifS (bindM (mBin (eqD false) (bindM (bindM (mVar 1) fun d => bindM (retM []) fun ds => retM (d :: ds)) fun ds => optM (lenD ds)) (retM (.int 2))) fun d => optM (blD d)) (seqM (retMS (andV (mBin (eqD false) (mBin atD (mVar 1) (retM (.int 0))) (retM (.str ("be" : Str)))) (callD 2 m_is_literal (bindM (mVar 0) fun d => bindM (bindM (mBin atD (mVar 1) (retM (.int 1))) fun d => bindM (retM []) fun ds => retM (d :: ds)) fun ds => retM (d :: ds)) [])))
  nxM) nxM)
  (seqM (asgM (mVar 1) (tupF 3 (consF (setF 2) (consF (setF 3) (consF (setF 4) nilF)))))
  (seqM (ifS (bindM (mBin (inD false) (mVar 2) (retM k_LITERAL_WORDS)) fun d => optM (blD d)) (seqM (retMS (andV (callD 2 m_is_literal (bindM (mVar 0) fun d => bindM (bindM (mVar 3) fun d => bindM (retM []) fun ds => retM (d :: ds)) fun ds => retM (d :: ds)) []) (andV (callD 2 m_is_literal (bindM (mVar 0) fun d => bindM (bindM (mVar 4) fun d => bindM (retM []) fun ds => retM (d :: ds)) fun ds => retM (d :: ds)) []) (mBin (eqD true) (mBin atD (mVar 3) (retM (.int 0))) (mBin atD (mVar 4) (retM (.int 0)))))))
  nxM) nxM)
  (seqM (ifS (bindM (mBin (inD false) (mVar 2) (retM k_NAME_WORDS)) fun d => optM (blD d)) (seqM (retMS (andV (callD 2 m_is_switch (bindM (mVar 0) fun d => bindM (bindM (mVar 3) fun d => bindM (retM []) fun ds => retM (d :: ds)) fun ds => retM (d :: ds)) []) (andV (callD 2 m_is_switch (bindM (mVar 0) fun d => bindM (bindM (mVar 4) fun d => bindM (retM []) fun ds => retM (d :: ds)) fun ds => retM (d :: ds)) []) (mBin (eqD true) (mVar 3) (mVar 4)))))
  nxM) nxM)
  (seqM (retMS (retM (.bl false)))
  nxM))))))
theorem sc_is_rule : FnScope N_is_rule p_is_rule (defScope s_is_rule) := ⟨rfl, rfl, rfl, by decide +kernel, rfl, by decide +kernel, by decide +kernel⟩
theorem x_is_rule {f : Addr} {fd : FuncData} (F : Fun K "is_rule" "is_rule" s_is_rule f fd) (T : Txt K mg) (c_LITERAL_WORDS : ConD K mg "LITERAL_WORDS" k_LITERAL_WORDS) (c_NAME_WORDS : ConD K mg "NAME_WORDS" k_NAME_WORDS) (d_is_literal : DefX HW.P HW.w K mg base 2 "is_literal" N_is_literal p_is_literal [] m_is_literal) (d_is_switch : DefX HW.P HW.w K mg base 1 "is_switch" N_is_switch p_is_switch [] m_is_switch) : FnOk HW.P HW.w K mg base CX0 3 f fd p_is_rule (spM K mg N_is_rule p_is_rule [] m_is_rule) := by
  refine def_ok (k := 2) F sc_is_rule fun cdv A outer s H E hr => ?_
  have nd := sc_is_rule.nd
  exact (ss_cons (s_if (b_w (bw_or (b_not (b_tru (e_isB (e_var 1) rfl T.isinstance (pe_bltn rfl T.tuple (by decide +kernel) rfl)))) (bw_or (b_not (b_chain op_le op_le rd_cmp rd_cmp e_int (e_bi call_len cd_len rfl T.len (by decide +kernel) (la_cons (e_var 1) la_nil)) e_int)) (bw_o1 (b_not (b_tru (e_isB (e_ix (e_var 1) e_int) rfl T.isinstance (pe_bltn rfl T.str (by decide +kernel) rfl)))))))) (ss_cons (s_ret e_bl)
  ss_nil) ss_nil)
  (ss_cons (s_if (b_cmp (op_eqD hr.units) rd_eq (e_bi call_len cd_len rfl T.len (by decide +kernel) (la_cons (e_var 1) la_nil)) e_int (nobehind _ (by decide) (by decide))) (ss_cons (s_ret (e_and (e_cmp (op_eqD hr.units) rd_eq (e_ix (e_var 1) e_int) e_str (nobehind _ (by decide) (by decide))) (e_1 (e_callX d_is_literal (hr.mono (by decide)) rfl rfl (la_cons (e_var 0) (la_cons (e_ix (e_var 1) e_int) la_nil)) (len_cons (len_cons len_nil)) rfl))))
  ss_nil) ss_nil)
  (ss_cons (s_asg (e_var 1) (pg_tup rfl (pgs_cons (pg_name (i := 2) nd rfl (by first | exact Or.inl rfl | exact Or.inr rfl)) (pgs_cons (pg_name (i := 3) nd rfl (by first | exact Or.inl rfl | exact Or.inr rfl)) (pgs_cons (pg_name (i := 4) nd rfl (by first | exact Or.inl rfl | exact Or.inr rfl)) pgs_nil)))) (tg_tup (tg_cons (tg_name (by decide)) (tg_cons (tg_name (by decide)) (tg_cons (tg_name (by decide)) tg_nil)))))
  (ss_cons (s_if (b_cmp op_inA rd_in (e_var 2) (ConD.dE c_LITERAL_WORDS rfl) (by rfl)) (ss_cons (s_ret (e_and (e_callX d_is_literal (hr.mono (by decide)) rfl rfl (la_cons (e_var 0) (la_cons (e_var 3) la_nil)) (len_cons (len_cons len_nil)) rfl) (e_and (e_callX d_is_literal (hr.mono (by decide)) rfl rfl (la_cons (e_var 0) (la_cons (e_var 4) la_nil)) (len_cons (len_cons len_nil)) rfl) (e_1 (e_cmp (op_neD hr.units) rd_ne (e_ix (e_var 3) e_int) (e_ix (e_var 4) e_int) (nobehind _ (by decide) (by decide)))))))
  ss_nil) ss_nil)
  (ss_cons (s_if (b_cmp op_inA rd_in (e_var 2) (ConD.dE c_NAME_WORDS rfl) (by rfl)) (ss_cons (s_ret (e_and (e_callX d_is_switch (hr.mono (by decide)) rfl rfl (la_cons (e_var 0) (la_cons (e_var 3) la_nil)) (len_cons (len_cons len_nil)) rfl) (e_and (e_callX d_is_switch (hr.mono (by decide)) rfl rfl (la_cons (e_var 0) (la_cons (e_var 4) la_nil)) (len_cons (len_cons len_nil)) rfl) (e_1 (e_cmp (op_neD hr.units) rd_ne (e_var 3) (e_var 4) (nobehind _ (by decide) (by decide)))))))
  ss_nil) ss_nil)
  (ss_cons (s_ret e_bl)
  ss_nil))))))

abbrev s_check_switches : Stmt := top 21
abbrev N_check_switches : List Str := ["switches", "index", "name"]
abbrev p_check_switches : List Str := ["switches"]
def m_check_switches : MS := (seqM (ifS (orB (bindM (bindM (bindM (mVar 0) fun d => optM (isB "tuple" d)) fun d => optM (truD d)) fun k => retM !k) (bindM (mBin (eqD false) (bindM (bindM (mVar 0) fun d => bindM (retM []) fun ds => retM (d :: ds)) fun ds => optM (lenD ds)) (retM (.int 0))) fun d => optM (blD d))) (seqM stuckM
  nxM) nxM)
  (seqM (forE (mVar 0) (consF (setF 1) (consF (setF 2) nilF))
  (seqM (ifS (orB (bindM (mBin (cmpD fun i j => decide (j ≤ i)) (mVar 1) (retM k_MOST_SWITCHES)) fun d => optM (blD d)) (orB (bindM (bindM (callD 2 m_is_name (bindM (mVar 2) fun d => bindM (retM []) fun ds => retM (d :: ds)) []) fun d => optM (truD d)) fun k => retM !k) (bindM (mBin (inD false) (mVar 2) (slM slL (mVar 0) (retM none) (bindM (mVar 1) fun d => optM ((intD d).map some)))) fun d => optM (blD d)))) (seqM stuckM
  nxM) nxM)
  nxM))
  nxM))
theorem sc_check_switches : FnScope N_check_switches p_check_switches (defScope s_check_switches) := ⟨rfl, rfl, rfl, by decide +kernel, rfl, by decide +kernel, by decide +kernel⟩
theorem x_check_switches {f : Addr} {fd : FuncData} (F : Fun K "check_switches" "check_switches" s_check_switches f fd) (T : Txt K mg) (c_MOST_SWITCHES : ConD K mg "MOST_SWITCHES" k_MOST_SWITCHES) (d_is_name : DefX HW.P HW.w K mg base 1 "is_name" N_is_name p_is_name [] m_is_name) : FnOk HW.P HW.w K mg base CX0 2 f fd p_check_switches (spM K mg N_check_switches p_check_switches [] m_check_switches) := by
  refine def_ok (k := 1) F sc_check_switches fun cdv A outer s H E hr => ?_
  have nd := sc_check_switches.nd
  exact (ss_cons (s_if (b_w (bw_or (b_not (b_tru (e_isB (e_var 0) rfl T.isinstance (pe_bltn rfl T.tuple (by decide +kernel) rfl)))) (bw_o1 (b_cmp (op_eqD hr.units) rd_eq (e_bi call_len cd_len rfl T.len (by decide +kernel) (la_cons (e_var 0) la_nil)) e_int (nobehind _ (by decide) (by decide)))))) (ss_cons s_never
  ss_nil) ss_nil)
  (ss_cons (s_forE (e_var 0) rfl T.enumerate (pg_tup rfl (pgs_cons (pg_name (i := 1) nd rfl (by first | exact Or.inl rfl | exact Or.inr rfl)) (pgs_cons (pg_name (i := 2) nd rfl (by first | exact Or.inl rfl | exact Or.inr rfl)) pgs_nil))) (tg_cons (tg_name (by decide)) (tg_cons (tg_name (by decide)) tg_nil))
  (ss_cons (s_if (b_w (bw_or (b_cmp op_ge rd_cmp (e_var 1) (ConD.dE c_MOST_SWITCHES rfl) (nobehind _ (by decide) (by decide))) (bw_or (b_not (b_tru (e_callX d_is_name (hr.mono (by decide)) rfl rfl (la_cons (e_var 2) la_nil) (len_cons len_nil) rfl))) (bw_o1 (b_cmp op_inA rd_in (e_var 2) (e_slA (e_var 0) ip_none (ip_some (e_var 1))) (by rfl)))))) (ss_cons s_never
  ss_nil) ss_nil)
  ss_nil) rfl PassesOwn.never)
  ss_nil))
def r_check_switches : R := (seqR (ifR (orB (bindM (bindM (bindM (mVar 0) fun d => optM (isB "tuple" d)) fun d => optM (truD d)) fun k => retM !k) (bindM (mBin (eqD false) (bindM (bindM (mVar 0) fun d => bindM (retM []) fun ds => retM (d :: ds)) fun ds => optM (lenD ds)) (retM (.int 0))) fun d => optM (blD d))) (seqR (raiseR "InvalidSwitches" "index" (retM .non)) stuckM noR) noR) (ifS (orB (bindM (bindM (bindM (mVar 0) fun d => optM (isB "tuple" d)) fun d => optM (truD d)) fun k => retM !k) (bindM (mBin (eqD false) (bindM (bindM (mVar 0) fun d => bindM (retM []) fun ds => retM (d :: ds)) fun ds => optM (lenD ds)) (retM (.int 0))) fun d => optM (blD d))) (seqM stuckM
  nxM) nxM) (seqR (forER (mVar 0) (consF (setF 1) (consF (setF 2) nilF))
  (seqM (ifS (orB (bindM (mBin (cmpD fun i j => decide (j ≤ i)) (mVar 1) (retM k_MOST_SWITCHES)) fun d => optM (blD d)) (orB (bindM (bindM (callD 2 m_is_name (bindM (mVar 2) fun d => bindM (retM []) fun ds => retM (d :: ds)) []) fun d => optM (truD d)) fun k => retM !k) (bindM (mBin (inD false) (mVar 2) (slM slL (mVar 0) (retM none) (bindM (mVar 1) fun d => optM ((intD d).map some)))) fun d => optM (blD d)))) (seqM stuckM
  nxM) nxM)
  nxM) (seqR (ifR (orB (bindM (mBin (cmpD fun i j => decide (j ≤ i)) (mVar 1) (retM k_MOST_SWITCHES)) fun d => optM (blD d)) (orB (bindM (bindM (callD 2 m_is_name (bindM (mVar 2) fun d => bindM (retM []) fun ds => retM (d :: ds)) []) fun d => optM (truD d)) fun k => retM !k) (bindM (mBin (inD false) (mVar 2) (slM slL (mVar 0) (retM none) (bindM (mVar 1) fun d => optM ((intD d).map some)))) fun d => optM (blD d)))) (seqR (raiseR "InvalidSwitches" "index" (mVar 1)) stuckM noR) noR) (ifS (orB (bindM (mBin (cmpD fun i j => decide (j ≤ i)) (mVar 1) (retM k_MOST_SWITCHES)) fun d => optM (blD d)) (orB (bindM (bindM (callD 2 m_is_name (bindM (mVar 2) fun d => bindM (retM []) fun ds => retM (d :: ds)) []) fun d => optM (truD d)) fun k => retM !k) (bindM (mBin (inD false) (mVar 2) (slM slL (mVar 0) (retM none) (bindM (mVar 1) fun d => optM ((intD d).map some)))) fun d => optM (blD d)))) (seqM stuckM
  nxM) nxM) noR)) (forE (mVar 0) (consF (setF 1) (consF (setF 2) nilF))
  (seqM (ifS (orB (bindM (mBin (cmpD fun i j => decide (j ≤ i)) (mVar 1) (retM k_MOST_SWITCHES)) fun d => optM (blD d)) (orB (bindM (bindM (callD 2 m_is_name (bindM (mVar 2) fun d => bindM (retM []) fun ds => retM (d :: ds)) []) fun d => optM (truD d)) fun k => retM !k) (bindM (mBin (inD false) (mVar 2) (slM slL (mVar 0) (retM none) (bindM (mVar 1) fun d => optM ((intD d).map some)))) fun d => optM (blD d)))) (seqM stuckM
  nxM) nxM)
  nxM)) noR))
theorem xr_check_switches {f : Addr} {fd : FuncData} (F : Fun K "check_switches" "check_switches" s_check_switches f fd) (T : Txt K mg) (c_MOST_SWITCHES : ConD K mg "MOST_SWITCHES" k_MOST_SWITCHES) (d_is_name : DefX HW.P HW.w K mg base 1 "is_name" N_is_name p_is_name [] m_is_name) (z_InvalidSwitches : ExFX HW.P K mg "InvalidSwitches" "index") : FnOk HW.P HW.w K mg base (L2N.CX HW.P HW.w) 2 f fd p_check_switches (spR K mg N_check_switches p_check_switches [] r_check_switches) := by
  refine def_okRN (k := 1) F sc_check_switches fun cdv A outer s H E hr => ?_
  have nd := sc_check_switches.nd
  exact (rssN_cons (rsN_if (b_w (bw_or (b_not (b_tru (e_isB (e_var 0) rfl T.isinstance (pe_bltn rfl T.tuple (by decide +kernel) rfl)))) (bw_o1 (b_cmp (op_eqD hr.units) rd_eq (e_bi call_len cd_len rfl T.len (by decide +kernel) (la_cons (e_var 0) la_nil)) e_int (nobehind _ (by decide) (by decide)))))) (rssN_cons (rsN_raiseF z_InvalidSwitches fdn_index (hr.mono (by decide)) rfl e_non rfl) s_never rssN_no) rssN_no) (s_if (b_w (bw_or (b_not (b_tru (e_isB (e_var 0) rfl T.isinstance (pe_bltn rfl T.tuple (by decide +kernel) rfl)))) (bw_o1 (b_cmp (op_eqD hr.units) rd_eq (e_bi call_len cd_len rfl T.len (by decide +kernel) (la_cons (e_var 0) la_nil)) e_int (nobehind _ (by decide) (by decide)))))) (ss_cons s_never
  ss_nil) ss_nil) (rssN_cons (rsN_forE (e_var 0) rfl T.enumerate (pg_tup rfl (pgs_cons (pg_name (i := 1) nd rfl (by first | exact Or.inl rfl | exact Or.inr rfl)) (pgs_cons (pg_name (i := 2) nd rfl (by first | exact Or.inl rfl | exact Or.inr rfl)) pgs_nil))) (tg_cons (tg_name (by decide)) (tg_cons (tg_name (by decide)) tg_nil))
  (ss_cons (s_if (b_w (bw_or (b_cmp op_ge rd_cmp (e_var 1) (ConD.dE c_MOST_SWITCHES rfl) (nobehind _ (by decide) (by decide))) (bw_or (b_not (b_tru (e_callX d_is_name (hr.mono (by decide)) rfl rfl (la_cons (e_var 2) la_nil) (len_cons len_nil) rfl))) (bw_o1 (b_cmp op_inA rd_in (e_var 2) (e_slA (e_var 0) ip_none (ip_some (e_var 1))) (by rfl)))))) (ss_cons s_never
  ss_nil) ss_nil)
  ss_nil) (rssN_cons (rsN_if (b_w (bw_or (b_cmp op_ge rd_cmp (e_var 1) (ConD.dE c_MOST_SWITCHES rfl) (nobehind _ (by decide) (by decide))) (bw_or (b_not (b_tru (e_callX d_is_name (hr.mono (by decide)) rfl rfl (la_cons (e_var 2) la_nil) (len_cons len_nil) rfl))) (bw_o1 (b_cmp op_inA rd_in (e_var 2) (e_slA (e_var 0) ip_none (ip_some (e_var 1))) (by rfl)))))) (rssN_cons (rsN_raiseF z_InvalidSwitches fdn_index (hr.mono (by decide)) rfl (e_var 1) rfl) s_never rssN_no) rssN_no) (s_if (b_w (bw_or (b_cmp op_ge rd_cmp (e_var 1) (ConD.dE c_MOST_SWITCHES rfl) (nobehind _ (by decide) (by decide))) (bw_or (b_not (b_tru (e_callX d_is_name (hr.mono (by decide)) rfl rfl (la_cons (e_var 2) la_nil) (len_cons len_nil) rfl))) (bw_o1 (b_cmp op_inA rd_in (e_var 2) (e_slA (e_var 0) ip_none (ip_some (e_var 1))) (by rfl)))))) (ss_cons s_never
  ss_nil) ss_nil) rssN_no) rfl PassesOwn.leaving) (s_forE (e_var 0) rfl T.enumerate (pg_tup rfl (pgs_cons (pg_name (i := 1) nd rfl (by first | exact Or.inl rfl | exact Or.inr rfl)) (pgs_cons (pg_name (i := 2) nd rfl (by first | exact Or.inl rfl | exact Or.inr rfl)) pgs_nil))) (tg_cons (tg_name (by decide)) (tg_cons (tg_name (by decide)) tg_nil))
  (ss_cons (s_if (b_w (bw_or (b_cmp op_ge rd_cmp (e_var 1) (ConD.dE c_MOST_SWITCHES rfl) (nobehind _ (by decide) (by decide))) (bw_or (b_not (b_tru (e_callX d_is_name (hr.mono (by decide)) rfl rfl (la_cons (e_var 2) la_nil) (len_cons len_nil) rfl))) (bw_o1 (b_cmp op_inA rd_in (e_var 2) (e_slA (e_var 0) ip_none (ip_some (e_var 1))) (by rfl)))))) (ss_cons s_never
  ss_nil) ss_nil)
  ss_nil) rfl PassesOwn.never) rssN_no))

abbrev s_check_rules : Stmt := top 22
abbrev N_check_rules : List Str := ["switches", "rules", "index", "rule"]
abbrev p_check_rules : List Str := ["switches", "rules"]
def m_check_rules : MS := (seqM (ifS (bindM (bindM (bindM (mVar 1) fun d => optM (isB "tuple" d)) fun d => optM (truD d)) fun k => retM !k) (seqM stuckM
  nxM) nxM)
  (seqM (forE (mVar 1) (consF (setF 2) (consF (setF 3) nilF))
  (seqM (ifS (orB (bindM (mBin (cmpD fun i j => decide (j ≤ i)) (mVar 2) (retM k_MOST_RULES)) fun d => optM (blD d)) (bindM (bindM (callD 5 m_is_rule (bindM (mVar 0) fun d => bindM (bindM (mVar 3) fun d => bindM (retM []) fun ds => retM (d :: ds)) fun ds => retM (d :: ds)) []) fun d => optM (truD d)) fun k => retM !k)) (seqM stuckM
  nxM) nxM)
  nxM))
  nxM))
theorem sc_check_rules : FnScope N_check_rules p_check_rules (defScope s_check_rules) := ⟨rfl, rfl, rfl, by decide +kernel, rfl, by decide +kernel, by decide +kernel⟩
theorem x_check_rules {f : Addr} {fd : FuncData} (F : Fun K "check_rules" "check_rules" s_check_rules f fd) (T : Txt K mg) (c_MOST_RULES : ConD K mg "MOST_RULES" k_MOST_RULES) (d_is_rule : DefX HW.P HW.w K mg base 3 "is_rule" N_is_rule p_is_rule [] m_is_rule) : FnOk HW.P HW.w K mg base CX0 4 f fd p_check_rules (spM K mg N_check_rules p_check_rules [] m_check_rules) := by
  refine def_ok (k := 3) F sc_check_rules fun cdv A outer s H E hr => ?_
  have nd := sc_check_rules.nd
  exact (ss_cons (s_if (b_not (b_tru (e_isB (e_var 1) rfl T.isinstance (pe_bltn rfl T.tuple (by decide +kernel) rfl)))) (ss_cons s_never
  ss_nil) ss_nil)
  (ss_cons (s_forE (e_var 1) rfl T.enumerate (pg_tup rfl (pgs_cons (pg_name (i := 2) nd rfl (by first | exact Or.inl rfl | exact Or.inr rfl)) (pgs_cons (pg_name (i := 3) nd rfl (by first | exact Or.inl rfl | exact Or.inr rfl)) pgs_nil))) (tg_cons (tg_name (by decide)) (tg_cons (tg_name (by decide)) tg_nil))
  (ss_cons (s_if (b_w (bw_or (b_cmp op_ge rd_cmp (e_var 2) (ConD.dE c_MOST_RULES rfl) (nobehind _ (by decide) (by decide))) (bw_o1 (b_not (b_tru (e_callX d_is_rule (hr.mono (by decide)) rfl rfl (la_cons (e_var 0) (la_cons (e_var 3) la_nil)) (len_cons (len_cons len_nil)) rfl)))))) (ss_cons s_never
  ss_nil) ss_nil)
  ss_nil) rfl PassesOwn.never)
  ss_nil))
def r_check_rules : R := (seqR (ifR (bindM (bindM (bindM (mVar 1) fun d => optM (isB "tuple" d)) fun d => optM (truD d)) fun k => retM !k) (seqR (raiseR "InvalidRules" "index" (retM .non)) stuckM noR) noR) (ifS (bindM (bindM (bindM (mVar 1) fun d => optM (isB "tuple" d)) fun d => optM (truD d)) fun k => retM !k) (seqM stuckM
  nxM) nxM) (seqR (forER (mVar 1) (consF (setF 2) (consF (setF 3) nilF))
  (seqM (ifS (orB (bindM (mBin (cmpD fun i j => decide (j ≤ i)) (mVar 2) (retM k_MOST_RULES)) fun d => optM (blD d)) (bindM (bindM (callD 5 m_is_rule (bindM (mVar 0) fun d => bindM (bindM (mVar 3) fun d => bindM (retM []) fun ds => retM (d :: ds)) fun ds => retM (d :: ds)) []) fun d => optM (truD d)) fun k => retM !k)) (seqM stuckM
  nxM) nxM)
  nxM) (seqR (ifR (orB (bindM (mBin (cmpD fun i j => decide (j ≤ i)) (mVar 2) (retM k_MOST_RULES)) fun d => optM (blD d)) (bindM (bindM (callD 5 m_is_rule (bindM (mVar 0) fun d => bindM (bindM (mVar 3) fun d => bindM (retM []) fun ds => retM (d :: ds)) fun ds => retM (d :: ds)) []) fun d => optM (truD d)) fun k => retM !k)) (seqR (raiseR "InvalidRules" "index" (mVar 2)) stuckM noR) noR) (ifS (orB (bindM (mBin (cmpD fun i j => decide (j ≤ i)) (mVar 2) (retM k_MOST_RULES)) fun d => optM (blD d)) (bindM (bindM (callD 5 m_is_rule (bindM (mVar 0) fun d => bindM (bindM (mVar 3) fun d => bindM (retM []) fun ds => retM (d :: ds)) fun ds => retM (d :: ds)) []) fun d => optM (truD d)) fun k => retM !k)) (seqM stuckM
  nxM) nxM) noR)) (forE (mVar 1) (consF (setF 2) (consF (setF 3) nilF))
  (seqM (ifS (orB (bindM (mBin (cmpD fun i j => decide (j ≤ i)) (mVar 2) (retM k_MOST_RULES)) fun d => optM (blD d)) (bindM (bindM (callD 5 m_is_rule (bindM (mVar 0) fun d => bindM (bindM (mVar 3) fun d => bindM (retM []) fun ds => retM (d :: ds)) fun ds => retM (d :: ds)) []) fun d => optM (truD d)) fun k => retM !k)) (seqM stuckM
  nxM) nxM)
  nxM)) noR))
theorem xr_check_rules {f : Addr} {fd : FuncData} (F : Fun K "check_rules" "check_rules" s_check_rules f fd) (T : Txt K mg) (c_MOST_RULES : ConD K mg "MOST_RULES" k_MOST_RULES) (d_is_rule : DefX HW.P HW.w K mg base 3 "is_rule" N_is_rule p_is_rule [] m_is_rule) (z_InvalidRules : ExFX HW.P K mg "InvalidRules" "index") : FnOk HW.P HW.w K mg base (L2N.CX HW.P HW.w) 4 f fd p_check_rules (spR K mg N_check_rules p_check_rules [] r_check_rules) := by
  refine def_okRN (k := 3) F sc_check_rules fun cdv A outer s H E hr => ?_
  have nd := sc_check_rules.nd
  exact (rssN_cons (rsN_if (b_not (b_tru (e_isB (e_var 1) rfl T.isinstance (pe_bltn rfl T.tuple (by decide +kernel) rfl)))) (rssN_cons (rsN_raiseF z_InvalidRules fdn_index (hr.mono (by decide)) rfl e_non rfl) s_never rssN_no) rssN_no) (s_if (b_not (b_tru (e_isB (e_var 1) rfl T.isinstance (pe_bltn rfl T.tuple (by decide +kernel) rfl)))) (ss_cons s_never
  ss_nil) ss_nil) (rssN_cons (rsN_forE (e_var 1) rfl T.enumerate (pg_tup rfl (pgs_cons (pg_name (i := 2) nd rfl (by first | exact Or.inl rfl | exact Or.inr rfl)) (pgs_cons (pg_name (i := 3) nd rfl (by first | exact Or.inl rfl | exact Or.inr rfl)) pgs_nil))) (tg_cons (tg_name (by decide)) (tg_cons (tg_name (by decide)) tg_nil))
  (ss_cons (s_if (b_w (bw_or (b_cmp op_ge rd_cmp (e_var 2) (ConD.dE c_MOST_RULES rfl) (nobehind _ (by decide) (by decide))) (bw_o1 (b_not (b_tru (e_callX d_is_rule (hr.mono (by decide)) rfl rfl (la_cons (e_var 0) (la_cons (e_var 3) la_nil)) (len_cons (len_cons len_nil)) rfl)))))) (ss_cons s_never
  ss_nil) ss_nil)
  ss_nil) (rssN_cons (rsN_if (b_w (bw_or (b_cmp op_ge rd_cmp (e_var 2) (ConD.dE c_MOST_RULES rfl) (nobehind _ (by decide) (by decide))) (bw_o1 (b_not (b_tru (e_callX d_is_rule (hr.mono (by decide)) rfl rfl (la_cons (e_var 0) (la_cons (e_var 3) la_nil)) (len_cons (len_cons len_nil)) rfl)))))) (rssN_cons (rsN_raiseF z_InvalidRules fdn_index (hr.mono (by decide)) rfl (e_var 2) rfl) s_never rssN_no) rssN_no) (s_if (b_w (bw_or (b_cmp op_ge rd_cmp (e_var 2) (ConD.dE c_MOST_RULES rfl) (nobehind _ (by decide) (by decide))) (bw_o1 (b_not (b_tru (e_callX d_is_rule (hr.mono (by decide)) rfl rfl (la_cons (e_var 0) (la_cons (e_var 3) la_nil)) (len_cons (len_cons len_nil)) rfl)))))) (ss_cons s_never
  ss_nil) ss_nil) rssN_no) rfl PassesOwn.leaving) (s_forE (e_var 1) rfl T.enumerate (pg_tup rfl (pgs_cons (pg_name (i := 2) nd rfl (by first | exact Or.inl rfl | exact Or.inr rfl)) (pgs_cons (pg_name (i := 3) nd rfl (by first | exact Or.inl rfl | exact Or.inr rfl)) pgs_nil))) (tg_cons (tg_name (by decide)) (tg_cons (tg_name (by decide)) tg_nil))
  (ss_cons (s_if (b_w (bw_or (b_cmp op_ge rd_cmp (e_var 2) (ConD.dE c_MOST_RULES rfl) (nobehind _ (by decide) (by decide))) (bw_o1 (b_not (b_tru (e_callX d_is_rule (hr.mono (by decide)) rfl rfl (la_cons (e_var 0) (la_cons (e_var 3) la_nil)) (len_cons (len_cons len_nil)) rfl)))))) (ss_cons s_never
  ss_nil) ss_nil)
  ss_nil) rfl PassesOwn.never) rssN_no))

abbrev s_Panel___init__ : Stmt := inClass (top 29) 0
abbrev N_Panel___init__ : List Str := ["self", "switches", "rules"]
abbrev p_Panel___init__ : List Str := ["self", "switches", "rules"]
def m_Panel___init__ : MS := (seqM (dropM (callD 3 m_check_switches (bindM (mVar 1) fun d => bindM (retM []) fun ds => retM (d :: ds)) []))
  (seqM (dropM (callD 4 m_check_rules (bindM (mVar 1) fun d => bindM (bindM (mVar 2) fun d => bindM (retM []) fun ds => retM (d :: ds)) fun ds => retM (d :: ds)) []))
  (seqM (setFM 0 "Panel" "switches" (mVar 1))
  (seqM (setFM 0 "Panel" "rules" (mVar 2))
  nxM))))
theorem sc_Panel___init__ : FnScope N_Panel___init__ p_Panel___init__ (defScope s_Panel___init__) := ⟨rfl, rfl, rfl, by decide +kernel, rfl, by decide +kernel, by decide +kernel⟩
theorem x_Panel___init__ {f : Addr} {fd : FuncData} {dvs : List V} (F : FunD K "__init__" "Panel.__init__" (defArgs s_Panel___init__) (defBody s_Panel___init__) (defScope s_Panel___init__) dvs [] f fd) (T : Txt K mg) (o_Panel : OwnC K mg "Panel" ["switches", "rules"]) (d_check_switches : DefX HW.P HW.w K mg base 2 "check_switches" N_check_switches p_check_switches [] m_check_switches) (d_check_rules : DefX HW.P HW.w K mg base 4 "check_rules" N_check_rules p_check_rules [] m_check_rules) : FnOk HW.P HW.w K mg base CX0 5 f fd p_Panel___init__ (spM K mg N_Panel___init__ p_Panel___init__ [0] m_Panel___init__) := by
  refine def_okD (k := 4) F sc_Panel___init__ fun cdv A outer s H E hr => ?_
  have nd := sc_Panel___init__.nd
  exact (ss_cons (s_drop (e_callX d_check_switches (hr.mono (by decide)) rfl rfl (la_cons (e_var 1) la_nil) (len_cons len_nil) rfl))
  (ss_cons (s_drop (e_callX d_check_rules (hr.mono (by decide)) rfl rfl (la_cons (e_var 1) (la_cons (e_var 2) la_nil)) (len_cons (len_cons len_nil)) rfl))
  (ss_cons (s_fldX 0 o_Panel (by simp) (pv 0) (e_var 1))
  (ss_cons (s_fldX 0 o_Panel (by simp) (pv 0) (e_var 2))
  ss_nil))))
def r_Panel___init__ : R := (seqR (rcall 3 r_check_switches (bindM (mVar 1) fun d => bindM (retM []) fun ds => retM (d :: ds))) (dropM (callD 3 m_check_switches (bindM (mVar 1) fun d => bindM (retM []) fun ds => retM (d :: ds)) [])) (seqR (rcall 4 r_check_rules (bindM (mVar 1) fun d => bindM (bindM (mVar 2) fun d => bindM (retM []) fun ds => retM (d :: ds)) fun ds => retM (d :: ds))) (dropM (callD 4 m_check_rules (bindM (mVar 1) fun d => bindM (bindM (mVar 2) fun d => bindM (retM []) fun ds => retM (d :: ds)) fun ds => retM (d :: ds)) [])) noR))
theorem xr_Panel___init__ {f : Addr} {fd : FuncData} {dvs : List V} (F : FunD K "__init__" "Panel.__init__" (defArgs s_Panel___init__) (defBody s_Panel___init__) (defScope s_Panel___init__) dvs [] f fd) (T : Txt K mg) (o_Panel : OwnC K mg "Panel" ["switches", "rules"]) (d_check_switches : DefX HW.P HW.w K mg base 2 "check_switches" N_check_switches p_check_switches [] m_check_switches) (d_check_rules : DefX HW.P HW.w K mg base 4 "check_rules" N_check_rules p_check_rules [] m_check_rules) (dr_check_switches : DefRN HW.P HW.w K mg base 2 "check_switches" N_check_switches p_check_switches [] r_check_switches) (dr_check_rules : DefRN HW.P HW.w K mg base 4 "check_rules" N_check_rules p_check_rules [] r_check_rules) : FnOk HW.P HW.w K mg base (L2N.CX HW.P HW.w) 5 f fd p_Panel___init__ (spR K mg N_Panel___init__ p_Panel___init__ [0] r_Panel___init__) := by
  refine def_okDRN (k := 4) F sc_Panel___init__ fun cdv A outer s H E hr => ?_
  have nd := sc_Panel___init__.nd
  exact (rssN_cons (rsN_expr (rxN_call dr_check_switches (hr.mono (by decide)) rfl rfl (la_cons (e_var 1) la_nil) (len_cons len_nil) rfl)) (s_drop (e_callX d_check_switches (hr.mono (by decide)) rfl rfl (la_cons (e_var 1) la_nil) (len_cons len_nil) rfl)) (rssN_cons (rsN_expr (rxN_call dr_check_rules (hr.mono (by decide)) rfl rfl (la_cons (e_var 1) (la_cons (e_var 2) la_nil)) (len_cons (len_cons len_nil)) rfl)) (s_drop (e_callX d_check_rules (hr.mono (by decide)) rfl rfl (la_cons (e_var 1) (la_cons (e_var 2) la_nil)) (len_cons (len_cons len_nil)) rfl)) rssN_no))

abbrev s_Panel___len__ : Stmt := inClass (top 29) 4
abbrev N_Panel___len__ : List Str := ["self"]
abbrev p_Panel___len__ : List Str := ["self"]
def m_Panel___len__ : MS := (seqM (retMS (bindM (bindM (bindM (mVar 0) fun d => optM (fldD "Panel" "rules" d)) fun d => bindM (retM []) fun ds => retM (d :: ds)) fun ds => optM (lenD ds)))
  nxM)
theorem sc_Panel___len__ : FnScope N_Panel___len__ p_Panel___len__ (defScope s_Panel___len__) := ⟨rfl, rfl, rfl, by decide +kernel, rfl, by decide +kernel, by decide +kernel⟩
theorem x_Panel___len__ {f : Addr} {fd : FuncData} (F : Fun K "__len__" "Panel.__len__" s_Panel___len__ f fd) (T : Txt K mg) (o_Panel : OwnC K mg "Panel" ["switches", "rules"]) : FnOk HW.P HW.w K mg base CX0 1 f fd p_Panel___len__ (spM K mg N_Panel___len__ p_Panel___len__ [] m_Panel___len__) := by
  refine def_ok (k := 0) F sc_Panel___len__ fun cdv A outer s H E hr => ?_
  have nd := sc_Panel___len__.nd
  exact (ss_cons (s_ret (e_bi call_len cd_len rfl T.len (by decide +kernel) (la_cons (e_fldX o_Panel (by simp) (e_var 0)) la_nil)))
  ss_nil)

abbrev s__law_is_name : Stmt := top 41
abbrev N__law_is_name : List Str := ["_law_value", "_law_sign"]
abbrev p__law_is_name : List Str := ["_law_value"]
def m__law_is_name : MS := (seqM (ifS (orB (bindM (bindM (bindM (mVar 0) fun d => optM (isB "str" d)) fun d => optM (truD d)) fun k => retM !k) (bindM (bindM (chM (cmpD fun i j => decide (i < j)) (cmpD fun i j => decide (i < j)) (retM (.int 0)) (bindM (bindM (mVar 0) fun d => bindM (retM []) fun ds => retM (d :: ds)) fun ds => optM (lenD ds)) (retM (.int 9))) fun d => optM (blD d)) fun k => retM !k)) (seqM (retMS (retM (.bl false)))
  nxM) nxM)
  (seqM (ifS (bindM (mBin (inD false) (mVar 0) (bindM (bindM (bindM (retM (.str ("be" : Str))) fun d => bindM (bindM (retM (.str ("either" : Str))) fun d => bindM (bindM (retM (.str ("needs" : Str))) fun d => bindM (bindM (retM (.str ("bars" : Str))) fun d => bindM (bindM (retM (.str ("same" : Str))) fun d => bindM (bindM (retM (.str ("unlike" : Str))) fun d => bindM (retM []) fun ds => retM (d :: ds)) fun ds => retM (d :: ds)) fun ds => retM (d :: ds)) fun ds => retM (d :: ds)) fun ds => retM (d :: ds)) fun ds => retM (d :: ds)) fun ds => optM (lstM ds)) fun o => retM o.d)) fun d => optM (blD d)) (seqM (retMS (retM (.bl false)))
  nxM) nxM)
  (seqM (retMS (mBin (eqNil false) (bindM (cplL (mVar 0) [1] (setF 1) (bindM (bindM (chM leSt leSt (retM (.str ("a" : Str))) (mVar 1) (retM (.str ("z" : Str)))) fun d => optM (blD d)) fun k => retM !k) (mVar 1)) fun o => retM o.d) (bindM (bindM (retM []) fun ds => optM (lstM ds)) fun o => retM o.d)))
  nxM)))
theorem sc__law_is_name : FnScope N__law_is_name p__law_is_name (defScope s__law_is_name) := ⟨rfl, rfl, rfl, by decide +kernel, rfl, by decide +kernel, by decide +kernel⟩
theorem x__law_is_name {f : Addr} {fd : FuncData} (F : Fun K "_law_is_name" "_law_is_name" s__law_is_name f fd) (T : Txt K mg)  : FnOk HW.P HW.w K mg base CX0 1 f fd p__law_is_name (spM K mg N__law_is_name p__law_is_name [] m__law_is_name) := by
  refine def_ok (k := 0) F sc__law_is_name fun cdv A outer s H E hr => ?_
  have nd := sc__law_is_name.nd
  exact (ss_cons (s_if (b_w (bw_or (b_not (b_tru (e_isB (e_var 0) rfl T.isinstance (pe_bltn rfl T.str (by decide +kernel) rfl)))) (bw_o1 (b_not (b_chain op_lt op_lt rd_cmp rd_cmp e_int (e_bi call_len cd_len rfl T.len (by decide +kernel) (la_cons (e_var 0) la_nil)) e_int))))) (ss_cons (s_ret e_bl)
  ss_nil) ss_nil)
  (ss_cons (s_if (b_cmp op_inA rd_in (e_var 0) (e_frz (o_lst (la_cons e_str (la_cons e_str (la_cons e_str (la_cons e_str (la_cons e_str (la_cons e_str la_nil)))))))) (by rfl)) (ss_cons (s_ret e_bl)
  ss_nil) ss_nil)
  (ss_cons (s_ret (e_cmp (op_eqNil hr.units) rd_eqNil (e_frz (o_lcL (own := [("_law_sign", 1)]) (vs := [1]) rfl rfl nd (e_var 0) (blkOk_by (N := N__law_is_name) (sc := defScope s__law_is_name) (by decide +kernel)) (fun _ _ _ _ _ => (pg_name (i := 1) nd rfl (by first | exact Or.inl rfl | exact Or.inr rfl))) (tg_name (by decide)) (tw_name (by decide)) (fun _ _ _ _ _ => pts_1 (b_not (b_chain op_le_str op_le_str rd_leSt rd_leSt e_str (e_var 1) e_str))) (fun _ _ _ _ _ => (e_var 1)))) (e_frz (o_lst la_nil)) (nobehind _ (by decide) (by decide))))
  ss_nil)))

abbrev s__law_is_literal : Stmt := top 42
abbrev N__law_is_literal : List Str := ["_law_value", "_law_names_here"]
abbrev p__law_is_literal : List Str := ["_law_value", "_law_names_here"]
def m__law_is_literal : MS := (seqM (ifS (orB (bindM (bindM (bindM (mVar 0) fun d => optM (isB "tuple" d)) fun d => optM (truD d)) fun k => retM !k) (bindM (mBin (eqD true) (bindM (bindM (mVar 0) fun d => bindM (retM []) fun ds => retM (d :: ds)) fun ds => optM (lenD ds)) (retM (.int 2))) fun d => optM (blD d))) (seqM (retMS (retM (.bl false)))
  nxM) nxM)
  (seqM (ifS (orB (bindM (bindM (bindM (mBin atD (mVar 0) (retM (.int 0))) fun d => optM (isB "str" d)) fun d => optM (truD d)) fun k => retM !k) (bindM (bindM (bindM (mBin atD (mVar 0) (retM (.int 1))) fun d => optM (isB "str" d)) fun d => optM (truD d)) fun k => retM !k)) (seqM (retMS (retM (.bl false)))
  nxM) nxM)
  (seqM (retMS (andV (mBin (inD false) (mBin atD (mVar 0) (retM (.int 0))) (mVar 1)) (mBin (inD false) (mBin atD (mVar 0) (retM (.int 1))) (bindM (bindM (bindM (retM (.str ("+" : Str))) fun d => bindM (bindM (retM (.str ("-" : Str))) fun d => bindM (retM []) fun ds => retM (d :: ds)) fun ds => retM (d :: ds)) fun ds => optM (lstM ds)) fun o => retM o.d))))
  nxM)))
theorem sc__law_is_literal : FnScope N__law_is_literal p__law_is_literal (defScope s__law_is_literal) := ⟨rfl, rfl, rfl, by decide +kernel, rfl, by decide +kernel, by decide +kernel⟩
theorem x__law_is_literal {f : Addr} {fd : FuncData} (F : Fun K "_law_is_literal" "_law_is_literal" s__law_is_literal f fd) (T : Txt K mg)  : FnOk HW.P HW.w K mg base CX0 1 f fd p__law_is_literal (spM K mg N__law_is_literal p__law_is_literal [] m__law_is_literal) := by
  refine def_ok (k := 0) F sc__law_is_literal fun cdv A outer s H E hr => ?_
  have nd := sc__law_is_literal.nd
  exact (ss_cons (s_if (b_w (bw_or (b_not (b_tru (e_isB (e_var 0) rfl T.isinstance (pe_bltn rfl T.tuple (by decide +kernel) rfl)))) (bw_o1 (b_cmp (op_neD hr.units) rd_ne (e_bi call_len cd_len rfl T.len (by decide +kernel) (la_cons (e_var 0) la_nil)) e_int (nobehind _ (by decide) (by decide)))))) (ss_cons (s_ret e_bl)
  ss_nil) ss_nil)
  (ss_cons (s_if (b_w (bw_or (b_not (b_tru (e_isB (e_ix (e_var 0) e_int) rfl T.isinstance (pe_bltn rfl T.str (by decide +kernel) rfl)))) (bw_o1 (b_not (b_tru (e_isB (e_ix (e_var 0) e_int) rfl T.isinstance (pe_bltn rfl T.str (by decide +kernel) rfl))))))) (ss_cons (s_ret e_bl)
  ss_nil) ss_nil)
  (ss_cons (s_ret (e_and (e_cmp op_inA rd_in (e_ix (e_var 0) e_int) (e_var 1) (by rfl)) (e_1 (e_cmp op_inA rd_in (e_ix (e_var 0) e_int) (e_frz (o_lst (la_cons e_str (la_cons e_str la_nil)))) (by rfl)))))
  ss_nil)))

abbrev s__law_is_rule : Stmt := top 43
abbrev N__law_is_rule : List Str := ["_law_value", "_law_names_here", "_law_fine"]
abbrev p__law_is_rule : List Str := ["_law_value", "_law_names_here"]
def m__law_is_rule : MS := (seqM (ifS (orB (bindM (bindM (bindM (mVar 0) fun d => optM (isB "tuple" d)) fun d => optM (truD d)) fun k => retM !k) (orB (bindM (mBin (eqNilT false) (mVar 0) (bindM (retM []) fun ds => optM (tupM ds))) fun d => optM (blD d)) (bindM (bindM (bindM (mBin atD (mVar 0) (retM (.int 0))) fun d => optM (isB "str" d)) fun d => optM (truD d)) fun k => retM !k))) (seqM (retMS (retM (.bl false)))
  nxM) nxM)
  (seqM (ifS (bindM (mBin (eqD false) (mBin atD (mVar 0) (retM (.int 0))) (retM (.str ("be" : Str)))) fun d => optM (blD d)) (seqM (retMS (andV (mBin (eqD false) (bindM (bindM (mVar 0) fun d => bindM (retM []) fun ds => retM (d :: ds)) fun ds => optM (lenD ds)) (retM (.int 2))) (callD 2 m__law_is_literal (bindM (mBin atD (mVar 0) (retM (.int 1))) fun d => bindM (bindM (mVar 1) fun d => bindM (retM []) fun ds => retM (d :: ds)) fun ds => retM (d :: ds)) [])))
  nxM) nxM)
  (seqM (ifS (orB (bindM (mBin (eqD true) (bindM (bindM (mVar 0) fun d => bindM (retM []) fun ds => retM (d :: ds)) fun ds => optM (lenD ds)) (retM (.int 3))) fun d => optM (blD d)) (bindM (mBin (fun x y => match y with | .str _ => none | _ => inD true x y) (mBin atD (mVar 0) (retM (.int 0))) (bindM (bindM (bindM (retM (.str ("either" : Str))) fun d => bindM (bindM (retM (.str ("needs" : Str))) fun d => bindM (bindM (retM (.str ("bars" : Str))) fun d => bindM (bindM (retM (.str ("same" : Str))) fun d => bindM (bindM (retM (.str ("unlike" : Str))) fun d => bindM (retM []) fun ds => retM (d :: ds)) fun ds => retM (d :: ds)) fun ds => retM (d :: ds)) fun ds => retM (d :: ds)) fun ds => retM (d :: ds)) fun ds => optM (lstM ds)) fun o => retM o.d)) fun d => optM (blD d))) (seqM (retMS (retM (.bl false)))
  nxM) nxM)
  (seqM (ifS (bindM (mBin (inD false) (mBin atD (mVar 0) (retM (.int 0))) (bindM (bindM (bindM (retM (.str ("same" : Str))) fun d => bindM (bindM (retM (.str ("unlike" : Str))) fun d => bindM (retM []) fun ds => retM (d :: ds)) fun ds => retM (d :: ds)) fun ds => optM (lstM ds)) fun o => retM o.d)) fun d => optM (blD d)) (seqM (ifS (orB (bindM (bindM (bindM (mBin atD (mVar 0) (retM (.int 1))) fun d => optM (isB "str" d)) fun d => optM (truD d)) fun k => retM !k) (bindM (bindM (bindM (mBin atD (mVar 0) (retM (.int 2))) fun d => optM (isB "str" d)) fun d => optM (truD d)) fun k => retM !k)) (seqM (retMS (retM (.bl false)))
  nxM) nxM)
  (seqM (retMS (andV (mBin (inD false) (mBin atD (mVar 0) (retM (.int 1))) (mVar 1)) (andV (mBin (inD false) (mBin atD (mVar 0) (retM (.int 2))) (mVar 1)) (mBin (eqD true) (mBin atD (mVar 0) (retM (.int 1))) (mBin atD (mVar 0) (retM (.int 2)))))))
  nxM)) nxM)
  (seqM (asgM (andV (callD 2 m__law_is_literal (bindM (mBin atD (mVar 0) (retM (.int 1))) fun d => bindM (bindM (mVar 1) fun d => bindM (retM []) fun ds => retM (d :: ds)) fun ds => retM (d :: ds)) []) (callD 2 m__law_is_literal (bindM (mBin atD (mVar 0) (retM (.int 2))) fun d => bindM (bindM (mVar 1) fun d => bindM (retM []) fun ds => retM (d :: ds)) fun ds => retM (d :: ds)) [])) (setF 2))
  (seqM (retMS (andV (mVar 2) (mBin (eqD true) (mBin atD (mBin atD (mVar 0) (retM (.int 1))) (retM (.int 0))) (mBin atD (mBin atD (mVar 0) (retM (.int 2))) (retM (.int 0))))))
  nxM))))))
theorem sc__law_is_rule : FnScope N__law_is_rule p__law_is_rule (defScope s__law_is_rule) := ⟨rfl, rfl, rfl, by decide +kernel, rfl, by decide +kernel, by decide +kernel⟩
theorem x__law_is_rule {f : Addr} {fd : FuncData} (F : Fun K "_law_is_rule" "_law_is_rule" s__law_is_rule f fd) (T : Txt K mg) (d__law_is_literal : DefX HW.P HW.w K mg base 1 "_law_is_literal" N__law_is_literal p__law_is_literal [] m__law_is_literal) : FnOk HW.P HW.w K mg base CX0 2 f fd p__law_is_rule (spM K mg N__law_is_rule p__law_is_rule [] m__law_is_rule) := by
  refine def_ok (k := 1) F sc__law_is_rule fun cdv A outer s H E hr => ?_
  have nd := sc__law_is_rule.nd
  exact (ss_cons (s_if (b_w (bw_or (b_not (b_tru (e_isB (e_var 0) rfl T.isinstance (pe_bltn rfl T.tuple (by decide +kernel) rfl)))) (bw_or (b_cmp (op_eqTupNil (hu_of hr)) rd_tupNil (e_var 0) (e_tup la_nil) (nobehind _ (by decide) (by decide))) (bw_o1 (b_not (b_tru (e_isB (e_ix (e_var 0) e_int) rfl T.isinstance (pe_bltn rfl T.str (by decide +kernel) rfl)))))))) (ss_cons (s_ret e_bl)
  ss_nil) ss_nil)
  (ss_cons (s_if (b_cmp (op_eqD hr.units) rd_eq (e_ix (e_var 0) e_int) e_str (nobehind _ (by decide) (by decide))) (ss_cons (s_ret (e_and (e_cmp (op_eqD hr.units) rd_eq (e_bi call_len cd_len rfl T.len (by decide +kernel) (la_cons (e_var 0) la_nil)) e_int (nobehind _ (by decide) (by decide))) (e_1 (e_callX d__law_is_literal (hr.mono (by decide)) rfl rfl (la_cons (e_ix (e_var 0) e_int) (la_cons (e_var 1) la_nil)) (len_cons (len_cons len_nil)) rfl))))
  ss_nil) ss_nil)
  (ss_cons (s_if (b_w (bw_or (b_cmp (op_neD hr.units) rd_ne (e_bi call_len cd_len rfl T.len (by decide +kernel) (la_cons (e_var 0) la_nil)) e_int (nobehind _ (by decide) (by decide))) (bw_o1 (b_cmp op_notIn_seq rd_nin (e_ix (e_var 0) e_int) (e_frz (o_lst (la_cons e_str (la_cons e_str (la_cons e_str (la_cons e_str (la_cons e_str la_nil))))))) (by rfl))))) (ss_cons (s_ret e_bl)
  ss_nil) ss_nil)
  (ss_cons (s_if (b_cmp op_inA rd_in (e_ix (e_var 0) e_int) (e_frz (o_lst (la_cons e_str (la_cons e_str la_nil)))) (by rfl)) (ss_cons (s_if (b_w (bw_or (b_not (b_tru (e_isB (e_ix (e_var 0) e_int) rfl T.isinstance (pe_bltn rfl T.str (by decide +kernel) rfl)))) (bw_o1 (b_not (b_tru (e_isB (e_ix (e_var 0) e_int) rfl T.isinstance (pe_bltn rfl T.str (by decide +kernel) rfl))))))) (ss_cons (s_ret e_bl)
  ss_nil) ss_nil)
  (ss_cons (s_ret (e_and (e_cmp op_inA rd_in (e_ix (e_var 0) e_int) (e_var 1) (by rfl)) (e_and (e_cmp op_inA rd_in (e_ix (e_var 0) e_int) (e_var 1) (by rfl)) (e_1 (e_cmp (op_neD hr.units) rd_ne (e_ix (e_var 0) e_int) (e_ix (e_var 0) e_int) (nobehind _ (by decide) (by decide)))))))
  ss_nil)) ss_nil)
  (ss_cons (s_asg (e_and (e_callX d__law_is_literal (hr.mono (by decide)) rfl rfl (la_cons (e_ix (e_var 0) e_int) (la_cons (e_var 1) la_nil)) (len_cons (len_cons len_nil)) rfl) (e_1 (e_callX d__law_is_literal (hr.mono (by decide)) rfl rfl (la_cons (e_ix (e_var 0) e_int) (la_cons (e_var 1) la_nil)) (len_cons (len_cons len_nil)) rfl))) (pg_name (i := 2) nd rfl (by first | exact Or.inl rfl | exact Or.inr rfl)) (tg_name (by decide)))
  (ss_cons (s_ret (e_and (e_var 2) (e_1 (e_cmp (op_neD hr.units) rd_ne (e_ix (e_ix (e_var 0) e_int) e_int) (e_ix (e_ix (e_var 0) e_int) e_int) (nobehind _ (by decide) (by decide))))))
  ss_nil))))))

abbrev s__law_due : Stmt := top 44
abbrev N__law_due : List Str := ["_law_names_here", "_law_some", "_law_k"]
abbrev p__law_due : List Str := ["_law_names_here", "_law_some"]
def m__law_due : MS := (seqM (ifS (orB (bindM (bindM (bindM (mVar 0) fun d => optM (isB "tuple" d)) fun d => optM (truD d)) fun k => retM !k) (bindM (mBin (eqNilT false) (mVar 0) (bindM (retM []) fun ds => optM (tupM ds))) fun d => optM (blD d))) (seqM (retMS (bindM (bindM (bindM (retM (.str ("InvalidSwitches" : Str))) fun d => bindM (bindM (retM (.str ("None" : Str))) fun d => bindM (retM []) fun ds => retM (d :: ds)) fun ds => retM (d :: ds)) fun ds => optM (lstM ds)) fun o => retM o.d))
  nxM) nxM)
  (seqM (forR (bindM (bindM (bindM (mVar 0) fun d => bindM (retM []) fun ds => retM (d :: ds)) fun ds => optM (lenD ds)) fun d => bindM (retM []) fun ds => retM (d :: ds)) rng1 (setF 2)
  (seqM (ifS (orB (bindM (mBin (eqD false) (mVar 2) (retM (.int 10))) fun d => optM (blD d)) (orB (bindM (bindM (callD 2 m__law_is_name (bindM (mBin atD (mVar 0) (mVar 2)) fun d => bindM (retM []) fun ds => retM (d :: ds)) []) fun d => optM (truD d)) fun k => retM !k) (bindM (mBin (inD false) (mBin atD (mVar 0) (mVar 2)) (slM slL (mVar 0) (retM none) (bindM (mVar 2) fun d => optM ((intD d).map some)))) fun d => optM (blD d)))) (seqM (retMS (bindM (bindM (bindM (retM (.str ("InvalidSwitches" : Str))) fun d => bindM (bindM (bindM (bindM (mVar 2) fun d => bindM (retM []) fun ds => retM (d :: ds)) fun ds => optM (strN ds)) fun d => bindM (retM []) fun ds => retM (d :: ds)) fun ds => retM (d :: ds)) fun ds => optM (lstM ds)) fun o => retM o.d))
  nxM) nxM)
  nxM))
  (seqM (ifS (bindM (bindM (bindM (mVar 1) fun d => optM (isB "tuple" d)) fun d => optM (truD d)) fun k => retM !k) (seqM (retMS (bindM (bindM (bindM (retM (.str ("InvalidRules" : Str))) fun d => bindM (bindM (retM (.str ("None" : Str))) fun d => bindM (retM []) fun ds => retM (d :: ds)) fun ds => retM (d :: ds)) fun ds => optM (lstM ds)) fun o => retM o.d))
  nxM) nxM)
  (seqM (forR (bindM (bindM (bindM (mVar 1) fun d => bindM (retM []) fun ds => retM (d :: ds)) fun ds => optM (lenD ds)) fun d => bindM (retM []) fun ds => retM (d :: ds)) rng1 (setF 2)
  (seqM (ifS (orB (bindM (mBin (eqD false) (mVar 2) (retM (.int 240))) fun d => optM (blD d)) (bindM (bindM (callD 3 m__law_is_rule (bindM (mBin atD (mVar 1) (mVar 2)) fun d => bindM (bindM (mVar 0) fun d => bindM (retM []) fun ds => retM (d :: ds)) fun ds => retM (d :: ds)) []) fun d => optM (truD d)) fun k => retM !k)) (seqM (retMS (bindM (bindM (bindM (retM (.str ("InvalidRules" : Str))) fun d => bindM (bindM (bindM (bindM (mVar 2) fun d => bindM (retM []) fun ds => retM (d :: ds)) fun ds => optM (strN ds)) fun d => bindM (retM []) fun ds => retM (d :: ds)) fun ds => retM (d :: ds)) fun ds => optM (lstM ds)) fun o => retM o.d))
  nxM) nxM)
  nxM))
  (seqM (retMS (bindM (bindM (bindM (retM (.str ("returned" : Str))) fun d => bindM (bindM (bindM (bindM (mVar 1) fun d => bindM (retM []) fun ds => retM (d :: ds)) fun ds => optM (lenD ds)) fun d => bindM (retM []) fun ds => retM (d :: ds)) fun ds => retM (d :: ds)) fun ds => optM (lstM ds)) fun o => retM o.d))
  nxM)))))
theorem sc__law_due : FnScope N__law_due p__law_due (defScope s__law_due) := ⟨rfl, rfl, rfl, by decide +kernel, rfl, by decide +kernel, by decide +kernel⟩
theorem x__law_due {f : Addr} {fd : FuncData} (F : Fun K "_law_due" "_law_due" s__law_due f fd) (T : Txt K mg) (d__law_is_name : DefX HW.P HW.w K mg base 1 "_law_is_name" N__law_is_name p__law_is_name [] m__law_is_name) (d__law_is_rule : DefX HW.P HW.w K mg base 2 "_law_is_rule" N__law_is_rule p__law_is_rule [] m__law_is_rule) : FnOk HW.P HW.w K mg base CX0 3 f fd p__law_due (spM K mg N__law_due p__law_due [] m__law_due) := by
  refine def_ok (k := 2) F sc__law_due fun cdv A outer s H E hr => ?_
  have nd := sc__law_due.nd
  exact (ss_cons (s_if (b_w (bw_or (b_not (b_tru (e_isB (e_var 0) rfl T.isinstance (pe_bltn rfl T.tuple (by decide +kernel) rfl)))) (bw_o1 (b_cmp (op_eqTupNil (hu_of hr)) rd_tupNil (e_var 0) (e_tup la_nil) (nobehind _ (by decide) (by decide)))))) (ss_cons (s_ret (e_frz (o_lst (la_cons e_str (la_cons e_str la_nil)))))
  ss_nil) ss_nil)
  (ss_cons (s_for1 (la_cons (e_bi call_len cd_len rfl T.len (by decide +kernel) (la_cons (e_var 0) la_nil)) la_nil) rfl T.range (pg_name (i := 2) nd rfl (by first | exact Or.inl rfl | exact Or.inr rfl)) (tg_name (by decide))
  (ss_cons (s_if (b_w (bw_or (b_cmp (op_eqD hr.units) rd_eq (e_var 2) e_int (nobehind _ (by decide) (by decide))) (bw_or (b_not (b_tru (e_callX d__law_is_name (hr.mono (by decide)) rfl rfl (la_cons (e_ix (e_var 0) (e_var 2)) la_nil) (len_cons len_nil) rfl))) (bw_o1 (b_cmp op_inA rd_in (e_ix (e_var 0) (e_var 2)) (e_slA (e_var 0) ip_none (ip_some (e_var 2))) (by rfl)))))) (ss_cons (s_ret (e_frz (o_lst (la_cons e_str (la_cons (e_ty call_strN cd_strN rfl T.str (by decide +kernel) (la_cons (e_var 2) la_nil)) la_nil)))))
  ss_nil) ss_nil)
  ss_nil) rfl PassesOwn.never)
  (ss_cons (s_if (b_not (b_tru (e_isB (e_var 1) rfl T.isinstance (pe_bltn rfl T.tuple (by decide +kernel) rfl)))) (ss_cons (s_ret (e_frz (o_lst (la_cons e_str (la_cons e_str la_nil)))))
  ss_nil) ss_nil)
  (ss_cons (s_for1 (la_cons (e_bi call_len cd_len rfl T.len (by decide +kernel) (la_cons (e_var 1) la_nil)) la_nil) rfl T.range (pg_name (i := 2) nd rfl (by first | exact Or.inl rfl | exact Or.inr rfl)) (tg_name (by decide))
  (ss_cons (s_if (b_w (bw_or (b_cmp (op_eqD hr.units) rd_eq (e_var 2) e_int (nobehind _ (by decide) (by decide))) (bw_o1 (b_not (b_tru (e_callX d__law_is_rule (hr.mono (by decide)) rfl rfl (la_cons (e_ix (e_var 1) (e_var 2)) (la_cons (e_var 0) la_nil)) (len_cons (len_cons len_nil)) rfl)))))) (ss_cons (s_ret (e_frz (o_lst (la_cons e_str (la_cons (e_ty call_strN cd_strN rfl T.str (by decide +kernel) (la_cons (e_var 2) la_nil)) la_nil)))))
  ss_nil) ss_nil)
  ss_nil) rfl PassesOwn.never)
  (ss_cons (s_ret (e_frz (o_lst (la_cons e_str (la_cons (e_bi call_len cd_len rfl T.len (by decide +kernel) (la_cons (e_var 1) la_nil)) la_nil)))))
  ss_nil)))))

abbrev s__law_bent : Stmt := top 45
abbrev N__law_bent : List Str := ["_law_bag_here", "_law_value", "_law_at", "_law_way", "_law_some", "_law_here"]
abbrev p__law_bent : List Str := ["_law_bag_here", "_law_value"]
def mR__law_bent : Nat → MS
  | 0 => stuckM
  | n + 1 => (seqM (parM 2 3 (bindM (lendD 5 m__law_draw 0 (bindM (bindM (bindM (mVar 1) fun d => bindM (retM []) fun ds => retM (d :: ds)) fun ds => optM (lenD ds)) fun d => bindM (retM []) fun ds => retM (d :: ds))) fun d => bindM (bindM (lendD 5 m__law_draw 0 (bindM (retM (.int 7)) fun d => bindM (retM []) fun ds => retM (d :: ds))) fun d => bindM (retM []) fun ds => retM (d :: ds)) fun ds => retM (d :: ds)))
  (seqM (ifS (andB (bindM (bindM (mBin atD (mVar 1) (mVar 2)) fun d => optM (isB "tuple" d)) fun d => optM (truD d)) (andB (bindM (mBin (eqNilT true) (mBin atD (mVar 1) (mVar 2)) (bindM (retM []) fun ds => optM (tupM ds))) fun d => optM (blD d)) (bindM (mBin (cmpD fun i j => decide (j < i)) (mVar 3) (retM (.int 1))) fun d => optM (blD d)))) (seqM (retMS (mBin addL (mBin addL (slM slL (mVar 1) (retM none) (bindM (mVar 2) fun d => optM ((intD d).map some))) (bindM (bindM (lendD 6 (mR__law_bent n) 0 (bindM (mBin atD (mVar 1) (mVar 2)) fun d => bindM (retM []) fun ds => retM (d :: ds))) fun d => bindM (retM []) fun ds => retM (d :: ds)) fun ds => optM (tupM ds))) (slM slL (mVar 1) (bindM (mBin addL (mVar 2) (retM (.int 1))) fun d => optM ((intD d).map some)) (retM none))))
  nxM) nxM)
  (seqM (asgO (bindM (bindM (retM .non) fun d => bindM (bindM (retM (.bl true)) fun d => bindM (bindM (retM (.int 0)) fun d => bindM (bindM (retM (.str ("" : Str))) fun d => bindM (bindM (retM (.str ("a" : Str))) fun d => bindM (bindM (retM (.str ("b" : Str))) fun d => bindM (bindM (retM (.str ("A" : Str))) fun d => bindM (bindM (retM (.str ("x y" : Str))) fun d => bindM (bindM (retM (.str ("abcdefghi" : Str))) fun d => bindM (bindM (bindM (retM []) fun ds => optM (tupM ds)) fun d => bindM (bindM (bindM (bindM (retM []) fun ds => optM (lstM ds)) fun o => retM o.d) fun d => bindM (bindM (bindM (fun s => some (O.dic [], s)) fun o => retM o.d) fun d => bindM (bindM (retM (.str ("be" : Str))) fun d => bindM (bindM (retM (.str ("needs" : Str))) fun d => bindM (bindM (retM (.str ("same" : Str))) fun d => bindM (bindM (retM (.str ("+" : Str))) fun d => bindM (bindM (retM (.str ("-" : Str))) fun d => bindM (bindM (retM (.str ("+-" : Str))) fun d => bindM (retM []) fun ds => retM (d :: ds)) fun ds => retM (d :: ds)) fun ds => retM (d :: ds)) fun ds => retM (d :: ds)) fun ds => retM (d :: ds)) fun ds => retM (d :: ds)) fun ds => retM (d :: ds)) fun ds => retM (d :: ds)) fun ds => retM (d :: ds)) fun ds => retM (d :: ds)) fun ds => retM (d :: ds)) fun ds => retM (d :: ds)) fun ds => retM (d :: ds)) fun ds => retM (d :: ds)) fun ds => retM (d :: ds)) fun ds => retM (d :: ds)) fun ds => retM (d :: ds)) fun ds => retM (d :: ds)) fun ds => optM (lstM ds)) 4)
  (seqM (asgM (lendD 2 m__law_one 0 (bindM (mBin addL (frzN 4) (bindM (bindM (bindM (bindM (bindM (retM (.str ("be" : Str))) fun d => bindM (bindM (bindM (bindM (retM (.str ("a" : Str))) fun d => bindM (bindM (retM (.str ("+" : Str))) fun d => bindM (retM []) fun ds => retM (d :: ds)) fun ds => retM (d :: ds)) fun ds => optM (tupM ds)) fun d => bindM (retM []) fun ds => retM (d :: ds)) fun ds => retM (d :: ds)) fun ds => optM (tupM ds)) fun d => bindM (bindM (bindM (bindM (retM (.str ("a" : Str))) fun d => bindM (bindM (retM (.str ("+" : Str))) fun d => bindM (retM []) fun ds => retM (d :: ds)) fun ds => retM (d :: ds)) fun ds => optM (tupM ds)) fun d => bindM (bindM (bindM (bindM (retM (.str ("a" : Str))) fun d => bindM (bindM (retM (.int 1)) fun d => bindM (retM []) fun ds => retM (d :: ds)) fun ds => retM (d :: ds)) fun ds => optM (tupM ds)) fun d => bindM (bindM (bindM (bindM (bindM (retM (.str ("a" : Str))) fun d => bindM (bindM (retM (.str ("+" : Str))) fun d => bindM (retM []) fun ds => retM (d :: ds)) fun ds => retM (d :: ds)) fun ds => optM (lstM ds)) fun o => retM o.d) fun d => bindM (bindM (bindM (bindM (retM (.str ("same" : Str))) fun d => bindM (bindM (retM (.str ("a" : Str))) fun d => bindM (bindM (retM (.str ("a" : Str))) fun d => bindM (retM []) fun ds => retM (d :: ds)) fun ds => retM (d :: ds)) fun ds => retM (d :: ds)) fun ds => optM (tupM ds)) fun d => bindM (bindM (retM (.str ("either" : Str))) fun d => bindM (retM []) fun ds => retM (d :: ds)) fun ds => retM (d :: ds)) fun ds => retM (d :: ds)) fun ds => retM (d :: ds)) fun ds => retM (d :: ds)) fun ds => retM (d :: ds)) fun ds => optM (lstM ds)) fun o => retM o.d)) fun d => bindM (retM []) fun ds => retM (d :: ds))) (setF 5))
  (seqM (ifS (bindM (mBin (eqD false) (mVar 3) (retM (.int 0))) fun d => optM (blD d)) (seqM (retMS (mBin addL (slM slL (mVar 1) (retM none) (bindM (mVar 2) fun d => optM ((intD d).map some))) (slM slL (mVar 1) (bindM (mBin addL (mVar 2) (retM (.int 1))) fun d => optM ((intD d).map some)) (retM none))))
  nxM) nxM)
  (seqM (retMS (ifM (bindM (mBin (eqD false) (mVar 3) (retM (.int 1))) fun d => optM (blD d)) (mBin addL (mBin addL (slM slL (mVar 1) (retM none) (bindM (mVar 2) fun d => optM ((intD d).map some))) (bindM (bindM (mVar 5) fun d => bindM (retM []) fun ds => retM (d :: ds)) fun ds => optM (tupM ds))) (slM slL (mVar 1) (bindM (mVar 2) fun d => optM ((intD d).map some)) (retM none))) (mBin addL (mBin addL (slM slL (mVar 1) (retM none) (bindM (mVar 2) fun d => optM ((intD d).map some))) (bindM (bindM (mVar 5) fun d => bindM (retM []) fun ds => retM (d :: ds)) fun ds => optM (tupM ds))) (slM slL (mVar 1) (bindM (mBin addL (mVar 2) (retM (.int 1))) fun d => optM ((intD d).map some)) (retM none)))))
  nxM))))))
def m__law_bent : MS := mR__law_bent 12
theorem sc__law_bent : FnScope N__law_bent p__law_bent (defScope s__law_bent) := ⟨rfl, rfl, rfl, by decide +kernel, rfl, by decide +kernel, by decide +kernel⟩
theorem xR__law_bent {f : Addr} {fd : FuncData} (F : Fun K "_law_bent" "_law_bent" s__law_bent f fd) (hm : mg "_law_bent" = some (.ref f)) (bd : Binds K fd p__law_bent []) (T : Txt K mg) (d__law_draw : DefX HW.P HW.w K mg base 1 "_law_draw" N__law_draw p__law_draw [0] m__law_draw) (d__law_one : DefX HW.P HW.w K mg base 2 "_law_one" N__law_one p__law_one [0] m__law_one) : ∀ n : Nat, FnOk HW.P HW.w K mg base CX0 (3 + n) f fd p__law_bent (spM K mg N__law_bent p__law_bent [0] (mR__law_bent n))
  | 0 => fn_none
  | n + 1 => by
    have dself : DefX HW.P HW.w K mg base (3 + n) "_law_bent" N__law_bent p__law_bent [0] (mR__law_bent n) := ⟨f, fd, xR__law_bent F hm bd T d__law_draw d__law_one n, hm, F.kp, bd⟩
    refine def_ok (k := 3 + n) F sc__law_bent fun cdv A outer s H E hr => ?_
    have nd := sc__law_bent.nd
    exact (ss_cons (s_par (i := 2) (j := 3) rfl rfl (by decide) rfl rfl (la_cons (e_lendX 0 d__law_draw (hr.mono (by omega)) rfl rfl (pv 0) (la_cons (e_bi call_len cd_len rfl T.len (by decide +kernel) (la_cons (e_var 1) la_nil)) la_nil) (len_cons len_nil) rfl) (la_cons (e_lendX 0 d__law_draw (hr.mono (by omega)) rfl rfl (pv 0) (la_cons e_int la_nil) (len_cons len_nil) rfl) la_nil)) (by decide) (by decide) rfl nd)
  (ss_cons (s_if (b_w (bw_and (b_tru (e_isB (e_ix (e_var 1) (e_var 2)) rfl T.isinstance (pe_bltn rfl T.tuple (by decide +kernel) rfl))) (bw_and (b_cmp (op_neTupNil (hu_of hr)) rd_tupNil (e_ix (e_var 1) (e_var 2)) (e_tup la_nil) (nobehind _ (by decide) (by decide))) (bw_a1 (b_cmp op_gt rd_cmp (e_var 3) e_int (nobehind _ (by decide) (by decide))))))) (ss_cons (s_ret (e_op op_addL rd_addL (e_op op_addL rd_addL (e_slA (e_var 1) ip_none (ip_some (e_var 2))) (e_tup (la_cons (e_lendX 0 dself (hr.mono (by omega)) rfl rfl (pv 0) (la_cons (e_ix (e_var 1) (e_var 2)) la_nil) (len_cons len_nil) rfl) la_nil))) (e_slA (e_var 1) (ip_some (e_op op_addL rd_addL (e_var 2) e_int)) ip_none)))
  ss_nil) ss_nil)
  (ss_cons (s_asgO (o_lst (la_cons e_non (la_cons e_bl (la_cons e_int (la_cons e_str (la_cons e_str (la_cons e_str (la_cons e_str (la_cons e_str (la_cons e_str (la_cons (e_tup la_nil) (la_cons (e_frz (o_lst la_nil)) (la_cons (e_frz o_knew) (la_cons e_str (la_cons e_str (la_cons e_str (la_cons e_str (la_cons e_str (la_cons e_str la_nil))))))))))))))))))) (pg_name (i := 4) nd rfl (by first | exact Or.inl rfl | exact Or.inr rfl)) (by decide))
  (ss_cons (s_asg (e_lendX 0 d__law_one (hr.mono (by omega)) rfl rfl (pv 0) (la_cons (e_op op_addL rd_addL (e_frzN 4 (pv 4)) (e_frz (o_lst (la_cons (e_tup (la_cons e_str (la_cons (e_tup (la_cons e_str (la_cons e_str la_nil))) la_nil))) (la_cons (e_tup (la_cons e_str (la_cons e_str la_nil))) (la_cons (e_tup (la_cons e_str (la_cons e_int la_nil))) (la_cons (e_frz (o_lst (la_cons e_str (la_cons e_str la_nil)))) (la_cons (e_tup (la_cons e_str (la_cons e_str (la_cons e_str la_nil)))) (la_cons e_str la_nil))))))))) la_nil) (len_cons len_nil) rfl) (pg_name (i := 5) nd rfl (by first | exact Or.inl rfl | exact Or.inr rfl)) (tg_name (by decide)))
  (ss_cons (s_if (b_cmp (op_eqD hr.units) rd_eq (e_var 3) e_int (nobehind _ (by decide) (by decide))) (ss_cons (s_ret (e_op op_addL rd_addL (e_slA (e_var 1) ip_none (ip_some (e_var 2))) (e_slA (e_var 1) (ip_some (e_op op_addL rd_addL (e_var 2) e_int)) ip_none)))
  ss_nil) ss_nil)
  (ss_cons (s_ret (e_if (b_cmp (op_eqD hr.units) rd_eq (e_var 3) e_int (nobehind _ (by decide) (by decide))) (e_op op_addL rd_addL (e_op op_addL rd_addL (e_slA (e_var 1) ip_none (ip_some (e_var 2))) (e_tup (la_cons (e_var 5) la_nil))) (e_slA (e_var 1) (ip_some (e_var 2)) ip_none)) (e_op op_addL rd_addL (e_op op_addL rd_addL (e_slA (e_var 1) ip_none (ip_some (e_var 2))) (e_tup (la_cons (e_var 5) la_nil))) (e_slA (e_var 1) (ip_some (e_op op_addL rd_addL (e_var 2) e_int)) ip_none))))
  ss_nil))))))
theorem x__law_bent {f : Addr} {fd : FuncData} (F : Fun K "_law_bent" "_law_bent" s__law_bent f fd) (hm : mg "_law_bent" = some (.ref f)) (bd : Binds K fd p__law_bent []) (T : Txt K mg) (d__law_draw : DefX HW.P HW.w K mg base 1 "_law_draw" N__law_draw p__law_draw [0] m__law_draw) (d__law_one : DefX HW.P HW.w K mg base 2 "_law_one" N__law_one p__law_one [0] m__law_one) : FnOk HW.P HW.w K mg base CX0 15 f fd p__law_bent (spM K mg N__law_bent p__law_bent [0] m__law_bent) := xR__law_bent F hm bd T d__law_draw d__law_one 12

abbrev s__law_sort : Stmt := top 40
abbrev N__law_sort : List Str := ["_law_e", "_law_bases", "_law_kinds", "_law_found"]
abbrev p__law_sort : List Str := ["_law_e"]
def m__law_sort (tt : Str → Option Bool) (hv : Str → Bool) (dx : Option Addr) (a : Addr) : MS := (seqM (asgO (bindM (bindM (bindM (mVar 0) fun d => optM (isPX (tt "ShapeError") a dx d)) fun d => bindM (bindM (bindM (mVar 0) fun d => optM (isPX (tt "QuestionError") a dx d)) fun d => bindM (bindM (bindM (mVar 0) fun d => optM (isPX (tt "SizeError") a dx d)) fun d => bindM (retM []) fun ds => retM (d :: ds)) fun ds => retM (d :: ds)) fun ds => retM (d :: ds)) fun ds => optM (lstM ds)) 1)
  (seqM (asgO (bindM (bindM (bindM (mVar 0) fun d => optM (isPX (tt "ValueError") a dx d)) fun d => bindM (bindM (bindM (mVar 0) fun d => optM (isPX (tt "LookupError") a dx d)) fun d => bindM (bindM (bindM (mVar 0) fun d => optM (isPX (tt "ArithmeticError") a dx d)) fun d => bindM (retM []) fun ds => retM (d :: ds)) fun ds => retM (d :: ds)) fun ds => retM (d :: ds)) fun ds => optM (lstM ds)) 2)
  (seqM (asgO (bindM (retM []) fun ds => optM (lstM ds)) 3)
  (seqM (ifS (bindM (bindM (mVar 0) fun d => optM (isPX (tt "InvalidRules") a dx d)) fun d => optM (truD d)) (seqM (appN 3 (bindM (bindM (bindM (retM (.str ("InvalidRules" : Str))) fun d => bindM (bindM (bindM (bindM (bindM (mVar 0) fun d => optM (fldE (hv "index") a dx "index" d)) fun d => bindM (retM []) fun ds => retM (d :: ds)) fun ds => optM (reprX ds)) fun d => bindM (retM []) fun ds => retM (d :: ds)) fun ds => retM (d :: ds)) fun ds => optM (lstM ds)) fun o => retM o.d))
  nxM) nxM)
  (seqM (ifS (bindM (bindM (mVar 0) fun d => optM (isPX (tt "InvalidSwitches") a dx d)) fun d => optM (truD d)) (seqM (appN 3 (bindM (bindM (bindM (retM (.str ("InvalidSwitches" : Str))) fun d => bindM (bindM (bindM (bindM (bindM (mVar 0) fun d => optM (fldE (hv "index") a dx "index" d)) fun d => bindM (retM []) fun ds => retM (d :: ds)) fun ds => optM (reprX ds)) fun d => bindM (retM []) fun ds => retM (d :: ds)) fun ds => retM (d :: ds)) fun ds => optM (lstM ds)) fun o => retM o.d))
  nxM) nxM)
  (seqM (retMS (ifM (andB (bindM (mBin (eqD false) (lenN 3) (retM (.int 1))) fun d => optM (blD d)) (andB (bindM (mBin (eqD false) (frzN 1) (frzN 2)) fun d => optM (blD d)) (bindM (mBin (eqD false) (mBin cntD (frzN 1) (retM (.bl true))) (retM (.int 1))) fun d => optM (blD d)))) (ixN 3 (retM (.int 0))) (bindM (bindM (bindM (retM (.str ("other" : Str))) fun d => bindM (retM []) fun ds => retM (d :: ds)) fun ds => optM (lstM ds)) fun o => retM o.d)))
  nxM))))))
theorem sc__law_sort : FnScope N__law_sort p__law_sort (defScope s__law_sort) := ⟨rfl, rfl, rfl, by decide +kernel, rfl, by decide +kernel, by decide +kernel⟩
theorem x__law_sort {c : Str} {tt : Str → Option Bool} {hv : Str → Bool} {dx : Option Addr} {f : Addr} {fd : FuncData} (F : Fun K "_law_sort" "_law_sort" s__law_sort f fd) (T : Txt K mg) (i_SizeError : IsO K mg c "SizeError" (tt "SizeError")) (i_QuestionError : IsO K mg c "QuestionError" (tt "QuestionError")) (i_ShapeError : IsO K mg c "ShapeError" (tt "ShapeError")) (i_ArithmeticError : IsT K mg c "ArithmeticError" "ArithmeticError" (tt "ArithmeticError")) (i_LookupError : IsT K mg c "LookupError" "LookupError" (tt "LookupError")) (i_ValueError : IsT K mg c "ValueError" "ValueError" (tt "ValueError")) (i_InvalidRules : IsO K mg c "InvalidRules" (tt "InvalidRules")) (i_InvalidSwitches : IsO K mg c "InvalidSwitches" (tt "InvalidSwitches")) (n_index : NoF K mg c "index" (hv "index")) : FnE HW.P HW.w K mg base 1 f fd p__law_sort c dx (fun a => spM K mg N__law_sort p__law_sort [] (m__law_sort tt hv dx a)) := by
  refine fnE_ok (k := 0) F sc__law_sort fun cdv A outer s H E p gd good hr => ?_
  have hu66 := hr.un66
  have nd := sc__law_sort.nd
  exact (ss_cons (s_asgO (o_lst (la_cons (e_isOX (a := p.1) (oe := p.2) (c := c) (d := dx) (List.mem_singleton_self _) good i_ShapeError (e_var 0) rfl T.isinstance rfl) (la_cons (e_isOX (a := p.1) (oe := p.2) (c := c) (d := dx) (List.mem_singleton_self _) good i_QuestionError (e_var 0) rfl T.isinstance rfl) (la_cons (e_isOX (a := p.1) (oe := p.2) (c := c) (d := dx) (List.mem_singleton_self _) good i_SizeError (e_var 0) rfl T.isinstance rfl) la_nil)))) (pg_name (i := 1) nd rfl (by first | exact Or.inl rfl | exact Or.inr rfl)) (by decide))
  (ss_cons (s_asgO (o_lst (la_cons (e_isTX (a := p.1) (oe := p.2) (c := c) (d := dx) (List.mem_singleton_self _) good i_ValueError (by decide +kernel) (e_var 0) rfl T.isinstance rfl) (la_cons (e_isTX (a := p.1) (oe := p.2) (c := c) (d := dx) (List.mem_singleton_self _) good i_LookupError (by decide +kernel) (e_var 0) rfl T.isinstance rfl) (la_cons (e_isTX (a := p.1) (oe := p.2) (c := c) (d := dx) (List.mem_singleton_self _) good i_ArithmeticError (by decide +kernel) (e_var 0) rfl T.isinstance rfl) la_nil)))) (pg_name (i := 2) nd rfl (by first | exact Or.inl rfl | exact Or.inr rfl)) (by decide))
  (ss_cons (s_asgO (o_lst la_nil) (pg_name (i := 3) nd rfl (by first | exact Or.inl rfl | exact Or.inr rfl)) (by decide))
  (ss_cons (s_if (b_tru (e_isOX (a := p.1) (oe := p.2) (c := c) (d := dx) (List.mem_singleton_self _) good i_InvalidRules (e_var 0) rfl T.isinstance rfl)) (ss_cons (s_appN 3 (pv 3) (e_frz (o_lst (la_cons e_str (la_cons (e_bi (call_reprX gd hu66) cd_reprX rfl T.repr (by decide +kernel) (la_cons (e_fldE (a := p.1) (oe := p.2) (c := c) (d := dx) (List.mem_singleton_self _) good n_index (e_var 0)) la_nil)) la_nil)))))
  ss_nil) ss_nil)
  (ss_cons (s_if (b_tru (e_isOX (a := p.1) (oe := p.2) (c := c) (d := dx) (List.mem_singleton_self _) good i_InvalidSwitches (e_var 0) rfl T.isinstance rfl)) (ss_cons (s_appN 3 (pv 3) (e_frz (o_lst (la_cons e_str (la_cons (e_bi (call_reprX gd hu66) cd_reprX rfl T.repr (by decide +kernel) (la_cons (e_fldE (a := p.1) (oe := p.2) (c := c) (d := dx) (List.mem_singleton_self _) good n_index (e_var 0)) la_nil)) la_nil)))))
  ss_nil) ss_nil)
  (ss_cons (s_ret (e_if (b_w (bw_and (b_cmp (op_eqD hr.units) rd_eq (e_lenN 3 (pv 3) rfl T.len) e_int (nobehind _ (by decide) (by decide))) (bw_and (b_cmp (op_eqD hr.units) rd_eq (e_frzN 1 (pv 1)) (e_frzN 2 (pv 2)) (nobehind _ (by decide) (by decide))) (bw_a1 (b_cmp (op_eqD hr.units) rd_eq (e_cnt (e_frzN 1 (pv 1)) e_bl) e_int (nobehind _ (by decide) (by decide))))))) (e_ixN 3 (pv 3) e_int) (e_frz (o_lst (la_cons e_str la_nil)))))
  ss_nil))))))

def tsub (c tn : Str) : Option Bool := if c = "InvalidSwitches" then (if tn = "SizeError" then some false else if tn = "QuestionError" then some false else if tn = "ShapeError" then some true else if tn = "ArithmeticError" then some false else if tn = "LookupError" then some false else if tn = "ValueError" then some true else if tn = "InvalidRules" then some false else if tn = "InvalidSwitches" then some true else none) else if c = "InvalidRules" then (if tn = "SizeError" then some false else if tn = "QuestionError" then some false else if tn = "ShapeError" then some true else if tn = "ArithmeticError" then some false else if tn = "LookupError" then some false else if tn = "ValueError" then some true else if tn = "InvalidRules" then some true else if tn = "InvalidSwitches" then some false else none) else none
def hasF (c f : Str) : Bool := (decide (c = "InvalidSwitches") && decide (f = "index")) || (decide (c = "InvalidRules") && decide (f = "index"))
def okEx (y : Exn) : Bool := (decide (y.c = "InvalidSwitches") && decide (y.fs.map (·.1) = (["index"] : List Str))) || (decide (y.c = "InvalidRules") && decide (y.fs.map (·.1) = (["index"] : List Str)))
def bodyEx (y : Exn) (dx : Option Addr) (a : Addr) : MS := m__law_sort (tsub y.c) (hasF y.c) dx a
def sfEx (y : Exn) : Option D := if okEx y = true then sfOf reprX y else none
abbrev s__law_answer : Stmt := top 39
abbrev N__law_answer : List Str := ["_law_call_here", "_law_got", "_law_e"]
abbrev p__law_answer : List Str := ["_law_call_here"]
theorem sc__law_answer : FnScope N__law_answer p__law_answer (defScope s__law_answer) := ⟨rfl, rfl, rfl, by decide +kernel, rfl, by decide +kernel, by decide +kernel⟩
def AnsL (K : PySem.W.Frag) (mg : Str → Option Value) (base : Heap) (k : Nat) : Prop := ∃ c1 c2 c3, AnsE HW.P HW.w K mg base k "_law_answer" "_law_call_here" (defArgs s__law_answer) (defBody s__law_answer) (defScope s__law_answer) N__law_answer N__law_sort p__law_sort c1 c2 c3 okEx bodyEx sfEx

end
end Fli
set_option Elab.async false
set_option linter.all false
set_option maxRecDepth 100000
set_option maxHeartbeats 4000000
namespace Fli
open PySem PySem.Spec PyProof.Rows L2
theorem isPX_self (t : Option Bool) (b dx : Addr) (fs : List (Str × D)) : isPX t b (some dx) (.exc b dx fs) = t.map .bl := by simp [isPX]
theorem isPX_ptr (t : Option Bool) (b : Addr) : isPX t b none (.ptr b) = t.map .bl := by simp [isPX]
theorem fldE_self (b dx : Addr) (f : Str) (v : D) : fldE true b (some dx) f (.exc b dx [(f, v)]) = some v := by simp [fldE]
theorem sf_says : ∀ y d, sfEx y = some d → okEx y = true ∧ (y.fs = [] → ∀ b, ∃ s2, callR N__law_sort.length (bodyEx y none b) [.d (.ptr b)] = some (.rd d s2)) ∧ (y.fs ≠ [] → ∀ b dx, ∃ s2, callR N__law_sort.length (bodyEx y (some dx) b) [.d (.exc b dx y.fs)] = some (.rd d s2)) := fun y d h => by
  unfold sfEx at h
  split at h
  · rename_i hy
    have hy' := hy
    unfold okEx at hy'
    simp only [Bool.or_eq_true, Bool.and_eq_true, decide_eq_true_eq, List.isEmpty_iff] at hy'
    obtain ⟨c, fs⟩ := y
    dsimp only at hy'
    have z1 : ∀ {α : Type} {x y : α} {a b c : D}, (if ([a, b, c] : List D).length ≤ sizeLine then x else y) = x := fun {α x y a b c} => if_pos (by rw [sizeLine_eq]; show 3 ≤ _; decide)
    have z2 : ∀ {α : Type} {x y : α}, (if ([] : List D).length ≤ sizeLine then x else y) = x := fun {α x y} => if_pos (Nat.zero_le _)
    have z3 : ∀ {α : Type} {x y : α}, (if ([] : List D).length < sizeLine then x else y) = x := fun {α x y} => if_pos (by rw [sizeLine_eq]; decide)
    have z4 : ∀ {α : Type} {x y : α} {a b : D}, (if ([a, b] : List D).length ≤ sizeLine then x else y) = x := fun {α x y a b} => if_pos (by rw [sizeLine_eq]; show 2 ≤ _; decide)
    rcases hy' with ⟨h1, h2⟩ | ⟨h1, h2⟩
    · subst h1
      obtain ⟨v, rfl⟩ : ∃ v, fs = [(("index" : Str), v)] := by
        match fs, h2 with
        | [(n, v)], h2 => exact ⟨v, by simp at h2; rw [h2]⟩
      refine ⟨hy, fun z => (nomatch z), fun _ b dx => ?_⟩
      unfold sfOf at h
      obtain ⟨r, hr, rfl⟩ := Option.map_eq_some_iff.mp h
      refine ⟨?w_InvalidSwitches, ?h_InvalidSwitches⟩
      case h_InvalidSwitches =>
      unfold callR bodyEx m__law_sort
      have t1 : startS N__law_sort.length [A.d (.exc b dx [(("index" : Str), v)])] = [some (.d (.exc b dx [(("index" : Str), v)])), none, none, none] := rfl
      dsimp only
      rw [t1]
      have u0 : tsub "InvalidSwitches" "SizeError" = some false := rfl
      have u1 : tsub "InvalidSwitches" "QuestionError" = some false := rfl
      have u2 : tsub "InvalidSwitches" "ShapeError" = some true := rfl
      have u3 : tsub "InvalidSwitches" "ArithmeticError" = some false := rfl
      have u4 : tsub "InvalidSwitches" "LookupError" = some false := rfl
      have u5 : tsub "InvalidSwitches" "ValueError" = some true := rfl
      have u6 : tsub "InvalidSwitches" "InvalidRules" = some false := rfl
      have u7 : tsub "InvalidSwitches" "InvalidSwitches" = some true := rfl
      have w0 : hasF "InvalidSwitches" "index" = true := rfl
      simp only [seqM, nxM, asgO, ifS, appN, mOwn, mPut, List.getElem?_cons_succ, bindM, mVar, optM, truD, blD, List.getElem?_cons_zero, Option.bind_some, Option.map_some, isPX_self, isPX_ptr, retM, lstM, List.set_cons_zero, List.set_cons_succ, u0, u1, u2, u3, u4, u5, u6, u7, w0, fldE_self, hr, z1, z2, z3, z4, if_true]
      rfl
    · subst h1
      obtain ⟨v, rfl⟩ : ∃ v, fs = [(("index" : Str), v)] := by
        match fs, h2 with
        | [(n, v)], h2 => exact ⟨v, by simp at h2; rw [h2]⟩
      refine ⟨hy, fun z => (nomatch z), fun _ b dx => ?_⟩
      unfold sfOf at h
      obtain ⟨r, hr, rfl⟩ := Option.map_eq_some_iff.mp h
      refine ⟨?w_InvalidRules, ?h_InvalidRules⟩
      case h_InvalidRules =>
      unfold callR bodyEx m__law_sort
      have t1 : startS N__law_sort.length [A.d (.exc b dx [(("index" : Str), v)])] = [some (.d (.exc b dx [(("index" : Str), v)])), none, none, none] := rfl
      dsimp only
      rw [t1]
      have u0 : tsub "InvalidRules" "SizeError" = some false := rfl
      have u1 : tsub "InvalidRules" "QuestionError" = some false := rfl
      have u2 : tsub "InvalidRules" "ShapeError" = some true := rfl
      have u3 : tsub "InvalidRules" "ArithmeticError" = some false := rfl
      have u4 : tsub "InvalidRules" "LookupError" = some false := rfl
      have u5 : tsub "InvalidRules" "ValueError" = some true := rfl
      have u6 : tsub "InvalidRules" "InvalidRules" = some true := rfl
      have u7 : tsub "InvalidRules" "InvalidSwitches" = some false := rfl
      have w0 : hasF "InvalidRules" "index" = true := rfl
      simp only [seqM, nxM, asgO, ifS, appN, mOwn, mPut, List.getElem?_cons_succ, bindM, mVar, optM, truD, blD, List.getElem?_cons_zero, Option.bind_some, Option.map_some, isPX_self, isPX_ptr, retM, lstM, List.set_cons_zero, List.set_cons_succ, u0, u1, u2, u3, u4, u5, u6, u7, w0, fldE_self, hr, z1, z2, z3, z4, if_true]
      rfl
  · cases h
end Fli
set_option Elab.async false
set_option linter.all false
set_option maxRecDepth 100000
set_option maxHeartbeats 8000000
namespace Fli
open PySem L2
section
variable [HW] {K : PySem.W.Frag} {mg : Str → Option Value} {base : Heap}
abbrev s__law_right : Stmt := top 46
def g_Panel_rules_switches : List D → List D := fun xs => match xs with | [x_rules, x_switches] => [x_switches, x_rules] | _ => []
abbrev N__law_right : List Str := ["_law_bag_here", "_law_turn", "_law_parts", "_law_rule_here", "_law_again", "_law_at", "_law_told"]
abbrev p__law_right : List Str := ["_law_bag_here"]
def m__law_right : MS := (seqM (forR (bindM (retM (.int 8)) fun d => bindM (retM []) fun ds => retM (d :: ds)) rng1 (setF 1)
  (seqM (asgO (slMOw (bindM (lendO 8 m__law_panel 0 (bindM (retM (.int 7)) fun d => bindM (bindM (retM (.int 8)) fun d => bindM (retM []) fun ds => retM (d :: ds)) fun ds => retM (d :: ds))) fun o => retM o.d) (retM none) (bindM (retM (.int 2)) fun d => optM ((intD d).map some))) 2)
  (seqM (asgM (bindM (bindM (retM (.str ("be" : Str))) fun d => bindM (bindM (bindM (bindM (mBin atD (ixN 2 (retM (.int 0))) (retM (.int 0))) fun d => bindM (bindM (retM (.str ("+" : Str))) fun d => bindM (retM []) fun ds => retM (d :: ds)) fun ds => retM (d :: ds)) fun ds => optM (tupM ds)) fun d => bindM (retM []) fun ds => retM (d :: ds)) fun ds => retM (d :: ds)) fun ds => optM (tupM ds)) (setF 3))
  (seqM (ifS (bindM (mBin (eqD false) (lendD 5 m__law_draw 0 (bindM (retM (.int 6)) fun d => bindM (retM []) fun ds => retM (d :: ds))) (retM (.int 0))) fun d => optM (blD d)) (seqM (putN 2 (retM (.int 1)) (mBin addL (ixN 2 (retM (.int 1))) (mBin repX (bindM (bindM (mVar 3) fun d => bindM (retM []) fun ds => retM (d :: ds)) fun ds => optM (tupM ds)) (lendD 2 m__law_one 0 (bindM (bindM (bindM (bindM (retM (.int 232)) fun d => bindM (bindM (retM (.int 240)) fun d => bindM (bindM (retM (.int 241)) fun d => bindM (retM []) fun ds => retM (d :: ds)) fun ds => retM (d :: ds)) fun ds => retM (d :: ds)) fun ds => optM (lstM ds)) fun o => retM o.d) fun d => bindM (retM []) fun ds => retM (d :: ds))))))
  nxM) nxM)
  (seqM (ifS (bindM (mBin (eqD false) (lendD 5 m__law_draw 0 (bindM (retM (.int 8)) fun d => bindM (retM []) fun ds => retM (d :: ds))) (retM (.int 0))) fun d => optM (blD d)) (seqM (putN 2 (retM (.int 0)) (mBin addL (ixN 2 (retM (.int 0))) (slM slL (bindM (bindM (retM (.str ("p" : Str))) fun d => bindM (bindM (retM (.str ("q" : Str))) fun d => bindM (bindM (retM (.str ("r" : Str))) fun d => bindM (bindM (retM (.str ("s" : Str))) fun d => bindM (bindM (retM (.str ("t" : Str))) fun d => bindM (bindM (retM (.str ("u" : Str))) fun d => bindM (bindM (retM (.str ("v" : Str))) fun d => bindM (bindM (retM (.str ("w" : Str))) fun d => bindM (retM []) fun ds => retM (d :: ds)) fun ds => retM (d :: ds)) fun ds => retM (d :: ds)) fun ds => retM (d :: ds)) fun ds => retM (d :: ds)) fun ds => retM (d :: ds)) fun ds => retM (d :: ds)) fun ds => retM (d :: ds)) fun ds => optM (tupM ds)) (retM none) (bindM (lendD 5 m__law_draw 0 (bindM (retM (.int 8)) fun d => bindM (retM []) fun ds => retM (d :: ds))) fun d => optM ((intD d).map some)))))
  nxM) nxM)
  (seqM (forR (bindM (lendD 5 m__law_draw 0 (bindM (retM (.int 3)) fun d => bindM (retM []) fun ds => retM (d :: ds))) fun d => bindM (retM []) fun ds => retM (d :: ds)) rng1 (setF 4)
  (seqM (asgM (lendD 5 m__law_draw 0 (bindM (retM (.int 2)) fun d => bindM (retM []) fun ds => retM (d :: ds))) (setF 5))
  (seqM (ifS (andB (bindM (bindM (ixN 2 (mVar 5)) fun d => optM (isB "tuple" d)) fun d => optM (truD d)) (bindM (mBin (eqNilT true) (ixN 2 (mVar 5)) (bindM (retM []) fun ds => optM (tupM ds))) fun d => optM (blD d))) (seqM (putN 2 (mVar 5) (lendD 6 m__law_bent 0 (bindM (ixN 2 (mVar 5)) fun d => bindM (retM []) fun ds => retM (d :: ds))))
  nxM) nxM)
  nxM)))
  (seqM (asgM (lendD 5 m__law_draw 0 (bindM (retM (.int 20)) fun d => bindM (retM []) fun ds => retM (d :: ds))) (setF 5))
  (seqM (ifS (bindM (mBin (cmpD fun i j => decide (i < j)) (mVar 5) (retM (.int 2))) fun d => optM (blD d)) (seqM (putN 2 (mVar 5) (lendD 2 m__law_one 0 (bindM (bindM (bindM (bindM (bindM (bindM (bindM (ixN 2 (mVar 5)) fun d => bindM (retM []) fun ds => retM (d :: ds)) fun ds => optM (lstcD ds)) fun o => retM o.d) fun d => bindM (bindM (retM .non) fun d => bindM (bindM (retM (.str ("a" : Str))) fun d => bindM (bindM (retM (.int 3)) fun d => bindM (bindM (bindM (fun s => some (O.dic [], s)) fun o => retM o.d) fun d => bindM (bindM (bindM (retM []) fun ds => optM (tupM ds)) fun d => bindM (retM []) fun ds => retM (d :: ds)) fun ds => retM (d :: ds)) fun ds => retM (d :: ds)) fun ds => retM (d :: ds)) fun ds => retM (d :: ds)) fun ds => retM (d :: ds)) fun ds => optM (lstM ds)) fun o => retM o.d) fun d => bindM (retM []) fun ds => retM (d :: ds))))
  nxM) nxM)
  (seqM (asgO (bindM (bindM (ansM (bindM (bindM (mkO 3 m_Panel___init__ "Panel" (bindM (ixN 2 (retM (.int 0))) fun d => bindM (bindM (ixN 2 (retM (.int 1))) fun d => bindM (retM []) fun ds => retM (d :: ds)) fun ds => retM (d :: ds)) fun xs => xs ++ []) fun o => retM o.d) fun d => optM (lenC 1 m_Panel___len__ "Panel" d)) (rmake 3 r_Panel___init__ "Panel" (bindM (ixN 2 (retM (.int 0))) fun d => bindM (bindM (ixN 2 (retM (.int 1))) fun d => bindM (retM []) fun ds => retM (d :: ds)) fun ds => retM (d :: ds)) []) sfEx) fun d => bindM (retM []) fun ds => retM (d :: ds)) fun ds => optM (lstM ds)) 6)
  (seqM (appN 6 (ansM (bindM (bindM (mkO 3 m_Panel___init__ "Panel" (bindM (ixN 2 (retM (.int 1))) fun d => bindM (bindM (ixN 2 (retM (.int 0))) fun d => bindM (retM []) fun ds => retM (d :: ds)) fun ds => retM (d :: ds)) g_Panel_rules_switches) fun o => retM o.d) fun d => optM (lenC 1 m_Panel___len__ "Panel" d)) (rmakeK 3 r_Panel___init__ "Panel" (bindM (ixN 2 (retM (.int 1))) fun d => bindM (bindM (ixN 2 (retM (.int 0))) fun d => bindM (retM []) fun ds => retM (d :: ds)) fun ds => retM (d :: ds)) g_Panel_rules_switches) sfEx))
  (seqM (ifS (bindM (mBin (eqD true) (frzN 6) (mBin repL (bindM (bindM (bindM (callD 3 m__law_due (bindM (ixN 2 (retM (.int 0))) fun d => bindM (bindM (ixN 2 (retM (.int 1))) fun d => bindM (retM []) fun ds => retM (d :: ds)) fun ds => retM (d :: ds)) []) fun d => bindM (retM []) fun ds => retM (d :: ds)) fun ds => optM (lstM ds)) fun o => retM o.d) (retM (.int 2)))) fun d => optM (blD d)) (seqM (retMS (retM (.bl false)))
  nxM) nxM)
  nxM)))))))))))
  (seqM (retMS (retM (.bl true)))
  nxM))
theorem sc__law_right : FnScope N__law_right p__law_right (defScope s__law_right) := ⟨rfl, rfl, rfl, by decide +kernel, rfl, by decide +kernel, by decide +kernel⟩
theorem x__law_right {f : Addr} {fd : FuncData} (T : Txt K mg) (A_ans : AnsL K mg base 15) (d_Panel___len__ : DefM HW.P HW.w K mg base 1 "Panel" "__len__" N_Panel___len__ p_Panel___len__ m_Panel___len__) (mkk_Panel_rules_switches : MakeKX HW.P HW.w K mg base 5 "Panel" N_Panel___init__ p_Panel___init__ ["rules", "switches"] g_Panel_rules_switches m_Panel___init__) (mk0_Panel : MakeX HW.P HW.w K mg base 5 "Panel" N_Panel___init__ p_Panel___init__ [] m_Panel___init__) (mk1_Panel : MakeX HW.P HW.w K mg base 5 "Panel" N_Panel___init__ p_Panel___init__ dd_Panel m_Panel___init__) (d__law_panel : DefX HW.P HW.w K mg base 4 "_law_panel" N__law_panel p__law_panel [0] m__law_panel) (d__law_draw : DefX HW.P HW.w K mg base 1 "_law_draw" N__law_draw p__law_draw [0] m__law_draw) (d__law_one : DefX HW.P HW.w K mg base 2 "_law_one" N__law_one p__law_one [0] m__law_one) (d__law_bent : DefX HW.P HW.w K mg base 15 "_law_bent" N__law_bent p__law_bent [0] m__law_bent) (d__law_due : DefX HW.P HW.w K mg base 3 "_law_due" N__law_due p__law_due [] m__law_due) (mkr_Panel : MakeRN HW.P HW.w K mg base 5 "Panel" N_Panel___init__ p_Panel___init__ [] r_Panel___init__) (jk_Panel_rules_switches : MakeRK HW.P HW.w K mg base 5 "Panel" N_Panel___init__ p_Panel___init__ ["rules", "switches"] g_Panel_rules_switches r_Panel___init__) : ∀ {cc PP : Addr} (tb : LamX.TabB base mg cc PP) (hT : HW.T = [(PP, (("_law_right" : Str) ++ ".<locals>.") ++ "<lambda>")]) (F : FunC K "_law_right" s__law_right f fd cc), FnG HW.P HW.w K mg base 18 f fd p__law_right (spM K mg N__law_right p__law_right [0] m__law_right) := by
  intro cc PP tb hT F
  obtain ⟨c1, c2, c3, A_ans⟩ := A_ans
  have hin : (PP, (("_law_right" : Str) ++ ".<locals>.") ++ "<lambda>") ∈ HW.T := by rw [hT]; exact List.mem_singleton_self _
  have one : ∀ p ∈ HW.T, p.1 = PP → p.2 = (("_law_right" : Str) ++ ".<locals>.") ++ "<lambda>" := by intro q hq _; rw [hT] at hq; cases List.mem_singleton.mp hq; rfl
  refine g_okC (k := 17) F sc__law_right fun A outer s H E gd hr => ?_
  have hu66 := hr.un66
  have nd := sc__law_right.nd
  exact (ss_cons (s_for1 (la_cons e_int la_nil) rfl T.range (pg_name (i := 1) nd rfl (by first | exact Or.inl rfl | exact Or.inr rfl)) (tg_name (by decide))
  (ss_cons (s_asgO (o_slL (e_frz (o_lendX 0 d__law_panel (hr.mono (by decide)) rfl rfl (pv 0) (la_cons e_int (la_cons e_int la_nil)) (len_cons (len_cons len_nil)) rfl)) ip_none (ip_some e_int)) (pg_name (i := 2) nd rfl (by first | exact Or.inl rfl | exact Or.inr rfl)) (by decide))
  (ss_cons (s_asg (e_tup (la_cons e_str (la_cons (e_tup (la_cons (e_ix (e_ixN 2 (pv 2) e_int) e_int) (la_cons e_str la_nil))) la_nil))) (pg_name (i := 3) nd rfl (by first | exact Or.inl rfl | exact Or.inr rfl)) (tg_name (by decide)))
  (ss_cons (s_if (b_cmp (op_eqD hr.units) rd_eq (e_lendX 0 d__law_draw (hr.mono (by decide)) rfl rfl (pv 0) (la_cons e_int la_nil) (len_cons len_nil) rfl) e_int (nobehind _ (by decide) (by decide))) (ss_cons (s_putN 2 (pv 2) e_int (e_op op_addL rd_addL (e_ixN 2 (pv 2) e_int) (e_op op_repX rd_repX (e_tup (la_cons (e_var 3) la_nil)) (e_lendX 0 d__law_one (hr.mono (by decide)) rfl rfl (pv 0) (la_cons (e_frz (o_lst (la_cons e_int (la_cons e_int (la_cons e_int la_nil))))) la_nil) (len_cons len_nil) rfl))))
  ss_nil) ss_nil)
  (ss_cons (s_if (b_cmp (op_eqD hr.units) rd_eq (e_lendX 0 d__law_draw (hr.mono (by decide)) rfl rfl (pv 0) (la_cons e_int la_nil) (len_cons len_nil) rfl) e_int (nobehind _ (by decide) (by decide))) (ss_cons (s_putN 2 (pv 2) e_int (e_op op_addL rd_addL (e_ixN 2 (pv 2) e_int) (e_slA (e_tup (la_cons e_str (la_cons e_str (la_cons e_str (la_cons e_str (la_cons e_str (la_cons e_str (la_cons e_str (la_cons e_str la_nil))))))))) ip_none (ip_some (e_lendX 0 d__law_draw (hr.mono (by decide)) rfl rfl (pv 0) (la_cons e_int la_nil) (len_cons len_nil) rfl)))))
  ss_nil) ss_nil)
  (ss_cons (s_for1 (la_cons (e_lendX 0 d__law_draw (hr.mono (by decide)) rfl rfl (pv 0) (la_cons e_int la_nil) (len_cons len_nil) rfl) la_nil) rfl T.range (pg_name (i := 4) nd rfl (by first | exact Or.inl rfl | exact Or.inr rfl)) (tg_name (by decide))
  (ss_cons (s_asg (e_lendX 0 d__law_draw (hr.mono (by decide)) rfl rfl (pv 0) (la_cons e_int la_nil) (len_cons len_nil) rfl) (pg_name (i := 5) nd rfl (by first | exact Or.inl rfl | exact Or.inr rfl)) (tg_name (by decide)))
  (ss_cons (s_if (b_w (bw_and (b_tru (e_isB (e_ixN 2 (pv 2) (e_var 5)) rfl T.isinstance (pe_bltn rfl T.tuple (by decide +kernel) rfl))) (bw_a1 (b_cmp (op_neTupNil (hu_of hr)) rd_tupNil (e_ixN 2 (pv 2) (e_var 5)) (e_tup la_nil) (nobehind _ (by decide) (by decide)))))) (ss_cons (s_putN 2 (pv 2) (e_var 5) (e_lendX 0 d__law_bent (hr.mono (by decide)) rfl rfl (pv 0) (la_cons (e_ixN 2 (pv 2) (e_var 5)) la_nil) (len_cons len_nil) rfl))
  ss_nil) ss_nil)
  ss_nil)) rfl PassesOwn.never)
  (ss_cons (s_asg (e_lendX 0 d__law_draw (hr.mono (by decide)) rfl rfl (pv 0) (la_cons e_int la_nil) (len_cons len_nil) rfl) (pg_name (i := 5) nd rfl (by first | exact Or.inl rfl | exact Or.inr rfl)) (tg_name (by decide)))
  (ss_cons (s_if (b_cmp op_lt rd_cmp (e_var 5) e_int (nobehind _ (by decide) (by decide))) (ss_cons (s_putN 2 (pv 2) (e_var 5) (e_lendX 0 d__law_one (hr.mono (by decide)) rfl rfl (pv 0) (la_cons (e_frz (o_lst (la_cons (e_frz (o_ty call_list_of co_list rfl T.list (by decide +kernel) (la_cons (e_ixN 2 (pv 2) (e_var 5)) la_nil))) (la_cons e_non (la_cons e_str (la_cons e_int (la_cons (e_frz o_knew) (la_cons (e_tup la_nil) la_nil)))))))) la_nil) (len_cons len_nil) rfl))
  ss_nil) ss_nil)
  (ss_cons (s_asgO (o_lst (la_cons (e_ansE A_ans gd rfl tb rfl (qn := ("_law_right" : Str) ++ ".<locals>.") rfl hin one (hr.mono (by decide)) (LamX.lamS_by (sc := defScope s__law_right) (by decide +kernel)) rfl (fun _ _ _ _ _ => rfl) (fun A outer s H E f c' hr => (e_lenX d_Panel___len__ (hr.mono (by decide)) rfl rfl (e_frz (o_makeX mk0_Panel (hr.mono (by decide)) rfl rfl (la_cons (e_ixN 2 (pv 2) e_int) (la_cons (e_ixN 2 (pv 2) e_int) la_nil)) (len_cons (len_cons len_nil)) rfl)) rfl T.len)) (fun A outer s H E f c' hr => (rx_bi1 (id := "len") (RXN.rx (rxN_make mkr_Panel (hr.mono (by decide)) rfl rfl (la_cons (e_ixN 2 (pv 2) e_int) (la_cons (e_ixN 2 (pv 2) e_int) la_nil)) (len_cons (len_cons len_nil)) rfl)) rfl T.len (by decide +kernel)))) la_nil)) (pg_name (i := 6) nd rfl (by first | exact Or.inl rfl | exact Or.inr rfl)) (by decide))
  (ss_cons (s_appN 6 (pv 6) (e_ansE A_ans gd rfl tb rfl (qn := ("_law_right" : Str) ++ ".<locals>.") rfl hin one (hr.mono (by decide)) (LamX.lamS_by (sc := defScope s__law_right) (by decide +kernel)) rfl (fun _ _ _ _ _ => rfl) (fun A outer s H E f c' hr => (e_lenX d_Panel___len__ (hr.mono (by decide)) rfl rfl (e_frz (o_makeKX mkk_Panel_rules_switches (hr.mono (by decide)) rfl rfl (lk_cons (e_ixN 2 (pv 2) e_int) (lk_cons (e_ixN 2 (pv 2) e_int) lk_nil)) (len_cons (len_cons len_nil)) (fun xs hx => by match xs, hx with | [_, _], _ => rfl))) rfl T.len)) (fun A outer s H E f c' hr => (rx_bi1 (id := "len") (RXN.rx (rxN_makeK jk_Panel_rules_switches (hr.mono (by decide)) rfl rfl (lk_cons (e_ixN 2 (pv 2) e_int) (lk_cons (e_ixN 2 (pv 2) e_int) lk_nil)) (len_cons (len_cons len_nil)) (fun xs hx => by match xs, hx with | [_, _], _ => rfl))) rfl T.len (by decide +kernel)))))
  (ss_cons (s_if (b_cmp (op_neD hr.units) rd_ne (e_frzN 6 (pv 6)) (e_op op_rep rd_rep (e_frz (o_lst (la_cons (e_callX d__law_due (hr.mono (by decide)) rfl rfl (la_cons (e_ixN 2 (pv 2) e_int) (la_cons (e_ixN 2 (pv 2) e_int) la_nil)) (len_cons (len_cons len_nil)) rfl) la_nil))) e_int) (nobehind _ (by decide) (by decide))) (ss_cons (s_ret e_bl)
  ss_nil) ss_nil)
  ss_nil)))))))))) rfl PassesOwn.never)
  (ss_cons (s_ret e_bl)
  ss_nil))

abbrev s_law : Stmt := top 47
abbrev N_law : List Str := ["_law_script", "_law_k"]
abbrev p_law : List Str := ["_law_script"]
def m_law : MS := (seqM (retMS (bindM (bindM (bindM (cplR (bindM (bindM (bindM (retM (.int 2)) fun d => bindM (bindM (bindM (bindM (bindM (bindM (mVar 0) fun d => bindM (retM []) fun ds => retM (d :: ds)) fun ds => optM (lenD ds)) fun d => bindM (bindM (retM (.int 6)) fun d => bindM (retM []) fun ds => retM (d :: ds)) fun ds => retM (d :: ds)) fun ds => optM (minD ds)) fun d => bindM (retM []) fun ds => retM (d :: ds)) fun ds => retM (d :: ds)) fun ds => optM (maxD ds)) fun d => bindM (retM []) fun ds => retM (d :: ds)) rng1 [1] (setF 1) (retM true) (giveD 7 m__law_right (callO 6 m__law_bag (bindM (mVar 0) fun d => bindM (bindM (mVar 1) fun d => bindM (retM []) fun ds => retM (d :: ds)) fun ds => retM (d :: ds)) []))) fun o => retM o.d) fun d => bindM (retM []) fun ds => retM (d :: ds)) fun ds => optM (allD ds)))
  nxM)
theorem sc_law : FnScope N_law p_law (defScope s_law) := ⟨rfl, rfl, rfl, by decide +kernel, rfl, by decide +kernel, by decide +kernel⟩
theorem x_law {f : Addr} {fd : FuncData} (F : Fun K "law" "law" s_law f fd) (T : Txt K mg) (d__law_right : DefG HW.P HW.w K mg base 18 "_law_right" N__law_right p__law_right [0] m__law_right) (d__law_bag : DefX HW.P HW.w K mg base 1 "_law_bag" N__law_bag p__law_bag [] m__law_bag) : FnG HW.P HW.w K mg base 19 f fd p_law (spM K mg N_law p_law [] m_law) := by
  refine g_ok (k := 18) F sc_law fun cdv A outer s H E gd hr => ?_
  have hu66 := hr.un66
  have nd := sc_law.nd
  exact (ss_cons (s_ret (e_bi (cr_all rfl) cd_all rfl T.all (by decide +kernel) (la_cons (e_frz (o_lc1 (own := [("_law_k", 1)]) (vs := [1]) rfl rfl nd (la_cons (e_bi (call_max2 rfl) cd_max rfl T.max (by decide +kernel) (la_cons e_int (la_cons (e_bi (call_min2 rfl) cd_min rfl T.min (by decide +kernel) (la_cons (e_bi call_len cd_len rfl T.len (by decide +kernel) (la_cons (e_var 0) la_nil)) (la_cons e_int la_nil))) la_nil))) la_nil) rfl T.range (blkOk_by (N := N_law) (sc := defScope s_law) (by decide +kernel)) (fun _ _ _ _ _ => (pg_name (i := 1) nd rfl (by first | exact Or.inl rfl | exact Or.inr rfl))) (tg_name (by decide)) (tw_name (by decide)) (fun _ _ _ _ _ => pts_0) (fun _ _ _ _ _ => (e_giveX d__law_right gd (hr.mono (by decide)) rfl rfl rfl (o_callX d__law_bag (hr.mono (by decide)) rfl rfl (la_cons (e_var 0) (la_cons (e_var 1) la_nil)) (len_cons (len_cons len_nil)) rfl))))) la_nil)))
  ss_nil)
end
end Fli
set_option Elab.async false
set_option linter.all false
set_option maxRecDepth 100000
set_option maxHeartbeats 8000000
namespace Fli
open PySem PySem.Spec PyProof.Rows L2
def gg_Panel_rules_switches {α : Type} : List α → List α → List α := fun us ws => match ws with | [x_rules, x_switches] => us ++ [x_switches, x_rules] | _ => us
theorem ggr_Panel_rules_switches {vs zs : List V} {us ws : List Value} (a : Vals vs us) (b : Vals zs ws) : Vals (gg_Panel_rules_switches vs zs) (gg_Panel_rules_switches us ws) := by
  cases b with | nil => exact a | cons r_rules b => cases b with | nil => exact a | cons r_switches b => cases b with | cons _ _ => exact a | nil => exact a.append (.cons r_switches (.cons r_rules .nil))
theorem ggd_Panel_rules_switches [HW] {K : PySem.W.Frag} {mg : Str → Option Value} (v : V) (zs : List V) (W : Hp) (xs : List D) (hl : xs.length = 2) (r : DRs K mg W zs xs) : ∃ us, gg_Panel_rules_switches [v] zs = v :: us ∧ DRs K mg W us (g_Panel_rules_switches xs) := by
  match xs, hl with
  | [_, _], _ => cases r with | cons r_rules r => cases r with | cons r_switches r => cases r; exact ⟨_, rfl, .cons r_switches (.cons r_rules .nil)⟩
theorem all_mk [HW] {K : PySem.W.Frag} {h : Heap} {mg : Str → Option Value} {fa fr cc PP C_Panel : Addr} {fdr : FuncData} (X : K.In h) (G : h.Ns mainGlobals mg) (hfa : mg "law" = some (.ref fa))
    (a_Panel : PySem.W.nsIn K mainGlobals "Panel" = some (some (.ref C_Panel)))
    (pg_Panel : PySem.W.plainGet K C_Panel Str.empty = true) (hd_Panel : PySem.W.hasDictIn K C_Panel = true) (po_Panel : PySem.W.plainOver K C_Panel = true) (sa_Panel : PySem.W.findIn K (.ref C_Panel) "__setattr__" = some (some (.builtin "object.__setattr__")))
    (oc_Panel : mg "Panel" = some (.ref C_Panel) → Cls K C_Panel → OwnC K mg "Panel" ["switches", "rules"])
    (T : Txt K mg)
    (c_LETTERS : ConD K mg "LETTERS" k_LETTERS)
    (c_LITERAL_WORDS : ConD K mg "LITERAL_WORDS" k_LITERAL_WORDS)
    (c_MOST_NAME : ConD K mg "MOST_NAME" k_MOST_NAME)
    (c_MOST_RULES : ConD K mg "MOST_RULES" k_MOST_RULES)
    (c_MOST_SWITCHES : ConD K mg "MOST_SWITCHES" k_MOST_SWITCHES)
    (c_NAME_WORDS : ConD K mg "NAME_WORDS" k_NAME_WORDS)
    (c_SIGNS : ConD K mg "SIGNS" k_SIGNS)
    (c_WORDS : ConD K mg "WORDS" k_WORDS)
    (z_InvalidSwitches : ExFX HW.P K mg "InvalidSwitches" "index")
    (n_InvalidSwitches_index : NoF K mg "InvalidSwitches" "index" (hasF "InvalidSwitches" "index"))
    (xc_InvalidSwitches : ∀ C', mg "InvalidSwitches" = some (.ref C') → ExcC K C')
    (i_InvalidSwitches_SizeError : IsO K mg "InvalidSwitches" "SizeError" (tsub "InvalidSwitches" "SizeError"))
    (i_InvalidSwitches_QuestionError : IsO K mg "InvalidSwitches" "QuestionError" (tsub "InvalidSwitches" "QuestionError"))
    (i_InvalidSwitches_ShapeError : IsO K mg "InvalidSwitches" "ShapeError" (tsub "InvalidSwitches" "ShapeError"))
    (i_InvalidSwitches_ArithmeticError : IsT K mg "InvalidSwitches" "ArithmeticError" "ArithmeticError" (tsub "InvalidSwitches" "ArithmeticError"))
    (i_InvalidSwitches_LookupError : IsT K mg "InvalidSwitches" "LookupError" "LookupError" (tsub "InvalidSwitches" "LookupError"))
    (i_InvalidSwitches_ValueError : IsT K mg "InvalidSwitches" "ValueError" "ValueError" (tsub "InvalidSwitches" "ValueError"))
    (i_InvalidSwitches_InvalidRules : IsO K mg "InvalidSwitches" "InvalidRules" (tsub "InvalidSwitches" "InvalidRules"))
    (i_InvalidSwitches_InvalidSwitches : IsO K mg "InvalidSwitches" "InvalidSwitches" (tsub "InvalidSwitches" "InvalidSwitches"))
    (em_InvalidSwitches : ∃ A1 A2 A3, mg "ShapeError" = some (.ref A1) ∧ mg "QuestionError" = some (.ref A2) ∧ mg "SizeError" = some (.ref A3) ∧ ∀ C', mg "InvalidSwitches" = some (.ref C') → PySem.W.exmAny K (.ref C') [.ref A1, .ref A2, .ref A3] = some true)
    (z_InvalidRules : ExFX HW.P K mg "InvalidRules" "index")
    (n_InvalidRules_index : NoF K mg "InvalidRules" "index" (hasF "InvalidRules" "index"))
    (xc_InvalidRules : ∀ C', mg "InvalidRules" = some (.ref C') → ExcC K C')
    (i_InvalidRules_SizeError : IsO K mg "InvalidRules" "SizeError" (tsub "InvalidRules" "SizeError"))
    (i_InvalidRules_QuestionError : IsO K mg "InvalidRules" "QuestionError" (tsub "InvalidRules" "QuestionError"))
    (i_InvalidRules_ShapeError : IsO K mg "InvalidRules" "ShapeError" (tsub "InvalidRules" "ShapeError"))
    (i_InvalidRules_ArithmeticError : IsT K mg "InvalidRules" "ArithmeticError" "ArithmeticError" (tsub "InvalidRules" "ArithmeticError"))
    (i_InvalidRules_LookupError : IsT K mg "InvalidRules" "LookupError" "LookupError" (tsub "InvalidRules" "LookupError"))
    (i_InvalidRules_ValueError : IsT K mg "InvalidRules" "ValueError" "ValueError" (tsub "InvalidRules" "ValueError"))
    (i_InvalidRules_InvalidRules : IsO K mg "InvalidRules" "InvalidRules" (tsub "InvalidRules" "InvalidRules"))
    (i_InvalidRules_InvalidSwitches : IsO K mg "InvalidRules" "InvalidSwitches" (tsub "InvalidRules" "InvalidSwitches"))
    (em_InvalidRules : ∃ A1 A2 A3, mg "ShapeError" = some (.ref A1) ∧ mg "QuestionError" = some (.ref A2) ∧ mg "SizeError" = some (.ref A3) ∧ ∀ C', mg "InvalidRules" = some (.ref C') → PySem.W.exmAny K (.ref C') [.ref A1, .ref A2, .ref A3] = some true)
    (FR : FunC K "_law_right" s__law_right fr fdr cc) (hmr : mg "_law_right" = some (.ref fr)) (hT : HW.T = [(PP, (("_law_right" : Str) ++ ".<locals>.") ++ "<lambda>")])
    (F__law_bag : FunX K mg "_law_bag" s__law_bag)
    (F__law_draw : FunX K mg "_law_draw" s__law_draw)
    (F__law_one : FunX K mg "_law_one" s__law_one)
    (F__law_names : FunX K mg "_law_names" s__law_names)
    (F__law_holds : FunX K mg "_law_holds" s__law_holds)
    (F__law_keeps : FunX K mg "_law_keeps" s__law_keeps)
    (F__law_rule : FunX K mg "_law_rule" s__law_rule)
    (F__law_panel : FunX K mg "_law_panel" s__law_panel)
    (F_is_name : FunX K mg "is_name" s_is_name)
    (F_is_switch : FunX K mg "is_switch" s_is_switch)
    (F_is_sign : FunX K mg "is_sign" s_is_sign)
    (F_is_literal : FunX K mg "is_literal" s_is_literal)
    (F_is_rule : FunX K mg "is_rule" s_is_rule)
    (F_check_switches : FunX K mg "check_switches" s_check_switches)
    (F_check_rules : FunX K mg "check_rules" s_check_rules)
    (F__law_is_name : FunX K mg "_law_is_name" s__law_is_name)
    (F__law_is_literal : FunX K mg "_law_is_literal" s__law_is_literal)
    (F__law_is_rule : FunX K mg "_law_is_rule" s__law_is_rule)
    (F__law_due : FunX K mg "_law_due" s__law_due)
    (F__law_bent : FunX K mg "_law_bent" s__law_bent)
    (F__law_sort : FunX K mg "_law_sort" s__law_sort)
    (F__law_answer : FunX K mg "_law_answer" s__law_answer)
    (F_law : FunX K mg "law" s_law)
    (F_Panel___len__ : MethF K C_Panel "__len__" "Panel.__len__" s_Panel___len__)
    (I_Panel : InitF K mg C_Panel "Panel.__init__" s_Panel___init__ dd_Panel) :
    ∃ fd : FuncData, (∀ (s : Shared) (u : Value), BindsTo s fd ⟨[u], []⟩ [("_law_script", u)]) ∧ ∀ base : Heap, K.In base → base.Ns mainGlobals mg → LamX.TabB base mg cc PP → FnG HW.P HW.w K mg base 19 fa fd p_law (spM K mg N_law p_law [] m_law) := by
  have hm_Panel : mg "Panel" = some (.ref C_Panel) := PySem.W.mg_of X G a_Panel
  have cl_Panel : Cls K C_Panel := ⟨pg_Panel, hd_Panel, po_Panel, sa_Panel⟩
  have o_Panel := oc_Panel hm_Panel cl_Panel
  obtain ⟨fl, fdl, Fl, hml⟩ := F_law
  have e := hfa.symm.trans hml
  cases e
  have Fl0 := Fl
  obtain ⟨oc, od, kV, doc, pm, an, cdv, ct, osl, rfl, lk, hcd⟩ := Fl0.ex
  refine ⟨PySem.W.fnOf "law" "law" (defArgs s_law) (defBody s_law) (defScope s_law) .none kV doc pm an cdv ct, fun s u => .of_eq rfl, fun base _ _ tb => ?_⟩
  have d__law_bag : DefX HW.P HW.w K mg base 1 "_law_bag" N__law_bag p__law_bag [] m__law_bag := F__law_bag.defX (fun F => x__law_bag F T) (fun _ _ _ _ _ _ us hl => match us, hl with | [_, _], _ => rfl)
  have d__law_draw : DefX HW.P HW.w K mg base 1 "_law_draw" N__law_draw p__law_draw [0] m__law_draw := F__law_draw.defX (fun F => x__law_draw F T) (fun _ _ _ _ _ _ us hl => match us, hl with | [_, _], _ => rfl)
  have d__law_one : DefX HW.P HW.w K mg base 2 "_law_one" N__law_one p__law_one [0] m__law_one := F__law_one.defX (fun F => x__law_one F T d__law_draw) (fun _ _ _ _ _ _ us hl => match us, hl with | [_, _], _ => rfl)
  have d__law_names : DefX HW.P HW.w K mg base 2 "_law_names" N__law_names p__law_names [0] m__law_names := F__law_names.defX (fun F => x__law_names F T d__law_draw) (fun _ _ _ _ _ _ us hl => match us, hl with | [_, _], _ => rfl)
  have d__law_holds : DefX HW.P HW.w K mg base 1 "_law_holds" N__law_holds p__law_holds [] m__law_holds := F__law_holds.defX (fun F => x__law_holds F T) (fun _ _ _ _ _ _ us hl => match us, hl with | [_, _, _], _ => rfl)
  have d__law_keeps : DefX HW.P HW.w K mg base 2 "_law_keeps" N__law_keeps p__law_keeps [] m__law_keeps := F__law_keeps.defX (fun F => x__law_keeps F T d__law_holds) (fun _ _ _ _ _ _ us hl => match us, hl with | [_, _, _], _ => rfl)
  have d__law_rule : DefX HW.P HW.w K mg base 3 "_law_rule" N__law_rule p__law_rule [0] m__law_rule := F__law_rule.defX (fun F => x__law_rule F T d__law_draw d__law_one d__law_keeps) (fun _ _ _ _ _ _ us hl => match us, hl with | [_, _, _, _], _ => rfl)
  have d__law_panel : DefX HW.P HW.w K mg base 4 "_law_panel" N__law_panel p__law_panel [0] m__law_panel := F__law_panel.defX (fun F => x__law_panel F T d__law_names d__law_draw d__law_rule) (fun _ _ _ _ _ _ us hl => match us, hl with | [_, _, _], _ => rfl)
  have d_is_name : DefX HW.P HW.w K mg base 1 "is_name" N_is_name p_is_name [] m_is_name := F_is_name.defX (fun F => x_is_name F T c_WORDS c_LETTERS c_MOST_NAME) (fun _ _ _ _ _ _ us hl => match us, hl with | [_], _ => rfl)
  have d_is_switch : DefX HW.P HW.w K mg base 1 "is_switch" N_is_switch p_is_switch [] m_is_switch := F_is_switch.defX (fun F => x_is_switch F T) (fun _ _ _ _ _ _ us hl => match us, hl with | [_, _], _ => rfl)
  have d_is_sign : DefX HW.P HW.w K mg base 1 "is_sign" N_is_sign p_is_sign [] m_is_sign := F_is_sign.defX (fun F => x_is_sign F T c_SIGNS) (fun _ _ _ _ _ _ us hl => match us, hl with | [_], _ => rfl)
  have d_is_literal : DefX HW.P HW.w K mg base 2 "is_literal" N_is_literal p_is_literal [] m_is_literal := F_is_literal.defX (fun F => x_is_literal F T d_is_sign d_is_switch) (fun _ _ _ _ _ _ us hl => match us, hl with | [_, _], _ => rfl)
  have d_is_rule : DefX HW.P HW.w K mg base 3 "is_rule" N_is_rule p_is_rule [] m_is_rule := F_is_rule.defX (fun F => x_is_rule F T c_LITERAL_WORDS c_NAME_WORDS d_is_literal d_is_switch) (fun _ _ _ _ _ _ us hl => match us, hl with | [_, _], _ => rfl)
  have dr_check_switches : DefRN HW.P HW.w K mg base 2 "check_switches" N_check_switches p_check_switches [] r_check_switches := F_check_switches.defRN (fun F => xr_check_switches F T c_MOST_SWITCHES d_is_name z_InvalidSwitches) (fun _ _ _ _ _ _ us hl => match us, hl with | [_], _ => rfl)
  have d_check_switches : DefX HW.P HW.w K mg base 2 "check_switches" N_check_switches p_check_switches [] m_check_switches := F_check_switches.defX (fun F => x_check_switches F T c_MOST_SWITCHES d_is_name) (fun _ _ _ _ _ _ us hl => match us, hl with | [_], _ => rfl)
  have dr_check_rules : DefRN HW.P HW.w K mg base 4 "check_rules" N_check_rules p_check_rules [] r_check_rules := F_check_rules.defRN (fun F => xr_check_rules F T c_MOST_RULES d_is_rule z_InvalidRules) (fun _ _ _ _ _ _ us hl => match us, hl with | [_, _], _ => rfl)
  have d_check_rules : DefX HW.P HW.w K mg base 4 "check_rules" N_check_rules p_check_rules [] m_check_rules := F_check_rules.defX (fun F => x_check_rules F T c_MOST_RULES d_is_rule) (fun _ _ _ _ _ _ us hl => match us, hl with | [_, _], _ => rfl)
  have mk0_Panel : MakeX HW.P HW.w K mg base 5 "Panel" N_Panel___init__ p_Panel___init__ [] m_Panel___init__ := I_Panel.makeX hm_Panel 3 (by simp) rfl (fun F => x_Panel___init__ F T o_Panel d_check_switches d_check_rules) (fun _ _ _ _ _ _ _ us its hl hi => match us, hl, its, hi with | [_, _, _], _, [_], _ => ⟨_, rfl, rfl⟩)
  have mk1_Panel : MakeX HW.P HW.w K mg base 5 "Panel" N_Panel___init__ p_Panel___init__ dd_Panel m_Panel___init__ := I_Panel.makeX hm_Panel 2 (by simp) rfl (fun F => x_Panel___init__ F T o_Panel d_check_switches d_check_rules) (fun _ _ _ _ _ _ _ us its hl hi => match us, hl, its, hi with | [_, _], _, [_], _ => ⟨_, rfl, rfl⟩)
  have mkr_Panel : MakeRN HW.P HW.w K mg base 5 "Panel" N_Panel___init__ p_Panel___init__ [] r_Panel___init__ := I_Panel.makeRN hm_Panel 3 (by simp) rfl (fun F => xr_Panel___init__ F T o_Panel d_check_switches d_check_rules dr_check_switches dr_check_rules) (fun _ _ _ _ _ _ _ us its hl hi => match us, hl, its, hi with | [_, _, _], _, [_], _ => ⟨_, rfl, rfl⟩)
  have mkk_Panel_rules_switches : MakeKX HW.P HW.w K mg base 5 "Panel" N_Panel___init__ p_Panel___init__ ["rules", "switches"] g_Panel_rules_switches m_Panel___init__ := I_Panel.makeKX hm_Panel (by simp) gg_Panel_rules_switches ggr_Panel_rules_switches (fun F => x_Panel___init__ F T o_Panel d_check_switches d_check_rules) (fun _ _ _ _ _ _ _ us its ws hl hi hw => match us, hl, its, hi, ws, hw with | [_], _, [_], _, [_, _], _ => ⟨_, rfl, rfl⟩) ggd_Panel_rules_switches
  have jk_Panel_rules_switches : MakeRK HW.P HW.w K mg base 5 "Panel" N_Panel___init__ p_Panel___init__ ["rules", "switches"] g_Panel_rules_switches r_Panel___init__ := I_Panel.makeRK hm_Panel (by simp) gg_Panel_rules_switches ggr_Panel_rules_switches (fun F => xr_Panel___init__ F T o_Panel d_check_switches d_check_rules dr_check_switches dr_check_rules) (fun _ _ _ _ _ _ _ us its ws hl hi hw => match us, hl, its, hi, ws, hw with | [_], _, [_], _, [_, _], _ => ⟨_, rfl, rfl⟩) ggd_Panel_rules_switches
  have d_Panel___len__ : DefM HW.P HW.w K mg base 1 "Panel" "__len__" N_Panel___len__ p_Panel___len__ m_Panel___len__ := F_Panel___len__.defM hm_Panel cl_Panel (fun F => x_Panel___len__ F T o_Panel) (fun _ _ _ _ _ _ us hl => match us, hl with | [_], _ => rfl)
  have d__law_is_name : DefX HW.P HW.w K mg base 1 "_law_is_name" N__law_is_name p__law_is_name [] m__law_is_name := F__law_is_name.defX (fun F => x__law_is_name F T) (fun _ _ _ _ _ _ us hl => match us, hl with | [_], _ => rfl)
  have d__law_is_literal : DefX HW.P HW.w K mg base 1 "_law_is_literal" N__law_is_literal p__law_is_literal [] m__law_is_literal := F__law_is_literal.defX (fun F => x__law_is_literal F T) (fun _ _ _ _ _ _ us hl => match us, hl with | [_, _], _ => rfl)
  have d__law_is_rule : DefX HW.P HW.w K mg base 2 "_law_is_rule" N__law_is_rule p__law_is_rule [] m__law_is_rule := F__law_is_rule.defX (fun F => x__law_is_rule F T d__law_is_literal) (fun _ _ _ _ _ _ us hl => match us, hl with | [_, _], _ => rfl)
  have d__law_due : DefX HW.P HW.w K mg base 3 "_law_due" N__law_due p__law_due [] m__law_due := F__law_due.defX (fun F => x__law_due F T d__law_is_name d__law_is_rule) (fun _ _ _ _ _ _ us hl => match us, hl with | [_, _], _ => rfl)
  have d__law_bent : DefX HW.P HW.w K mg base 15 "_law_bent" N__law_bent p__law_bent [0] m__law_bent := F__law_bent.defRec (fun F hm bd => x__law_bent F hm bd T d__law_draw d__law_one) (fun _ _ _ _ _ _ us hl => match us, hl with | [_, _], _ => rfl)
  have A_ans : AnsL K mg base 15 := by
    obtain ⟨ga, fda, Fa, hma⟩ := F__law_answer
    obtain ⟨gs, fds, Fs, hms⟩ := F__law_sort
    have Bs := Fs.binds (ps := p__law_sort) (fun _ _ _ _ _ _ us hl => match us, hl with | [_], _ => rfl)
    have Ba := Fa.binds (ps := ["_law_call_here"]) (fun _ _ _ _ _ _ us hl => match us, hl with | [_], _ => rfl)
    obtain ⟨A1, A2, A3, w1, w2, w3, w4_0⟩ := em_InvalidSwitches
    obtain ⟨B1, B2, B3, v1, v2, v3, w4_1⟩ := em_InvalidRules
    rw [w1] at v1; cases v1; rw [w2] at v2; cases v2; rw [w3] at v3; cases v3
    obtain ⟨oc, od, kV, doc, pm, an, cdv, ct, osl, rfl, lk, hcd⟩ := Fa.ex
    have one : ∀ y, okEx y = true → y.c = "InvalidSwitches" ∨ y.c = "InvalidRules" := fun y hy => by
      unfold okEx at hy
      simp only [Bool.or_eq_true, Bool.and_eq_true, decide_eq_true_eq] at hy
      rcases hy with ⟨h, _⟩ | ⟨h, _⟩
      · exact Or.inl h
      · exact Or.inr (h)
    refine ⟨.ref A1, .ref A2, .ref A3, ⟨⟨ga, _, kV, doc, pm, cdv, ct, oc, an, od, osl, hma, Fa.kp, lk, hcd, Ba, fun Y q e1 e2 e3 e4 e5 gd room => ?_⟩, sc__law_answer, rfl, Or.inl rfl, by decide, by decide, rfl, fun y C hy e => ?_, sf_says⟩⟩
    · subst e3 e4 e5
      refine ans_givesE (i := 1) (j := 2) (kk := 0) (got := "_law_got") (en := "_law_e") (sn := "_law_sort") (x1 := "ShapeError") (x2 := "QuestionError") (x3 := "SizeError") gd room (by decide) rfl rfl rfl rfl rfl rfl rfl rfl rfl w1 w2 w3 hms Fs.kp Bs (fun y dd hy => ?_) rfl fun y C hy e => ?_
      · show FnE Y.prog Y.w Y.K Y.mg Y.base _ gs fds p__law_sort y.c dd fun b => spM Y.K Y.mg N__law_sort p__law_sort [] (m__law_sort (tsub y.c) (hasF y.c) dd b)
        rcases one y hy with z1 | z1
        · rw [z1, e1, e2]
          exact (x__law_sort Fs T i_InvalidSwitches_SizeError i_InvalidSwitches_QuestionError i_InvalidSwitches_ShapeError i_InvalidSwitches_ArithmeticError i_InvalidSwitches_LookupError i_InvalidSwitches_ValueError i_InvalidSwitches_InvalidRules i_InvalidSwitches_InvalidSwitches n_InvalidSwitches_index).mono (by decide)
        · rw [z1, e1, e2]
          exact (x__law_sort Fs T i_InvalidRules_SizeError i_InvalidRules_QuestionError i_InvalidRules_ShapeError i_InvalidRules_ArithmeticError i_InvalidRules_LookupError i_InvalidRules_ValueError i_InvalidRules_InvalidRules i_InvalidRules_InvalidSwitches n_InvalidRules_index).mono (by decide)
      · rcases one y hy with z1 | z1
        · rw [z1] at e; exact xc_InvalidSwitches C e
        · rw [z1] at e; exact xc_InvalidRules C e
    · rcases one y hy with z1 | z1
      · rw [z1] at e; exact w4_0 C e
      · rw [z1] at e; exact w4_1 C e
  have d__law_right : DefG HW.P HW.w K mg base 18 "_law_right" N__law_right p__law_right [0] m__law_right := FR.defG hmr (x__law_right T A_ans d_Panel___len__ mkk_Panel_rules_switches mk0_Panel mk1_Panel d__law_panel d__law_draw d__law_one d__law_bent d__law_due mkr_Panel jk_Panel_rules_switches tb hT FR) (fun _ _ _ _ _ _ us hl => match us, hl with | [_], _ => rfl)
  exact x_law Fl T d__law_right d__law_bag
end Fli
set_option Elab.async false
set_option linter.all false
set_option maxRecDepth 100000
set_option maxHeartbeats 4000000
namespace Fli
open PySem L2

/-! what a mirror comes to -/
def Wp {α : Type} (m : M α) (s : S) (Q : α → S → Prop) : Prop := ∃ a s', m s = some (a, s') ∧ Q a s'
def WS (m : MS) (s : S) (Q : Out → Prop) : Prop := ∃ o, m s = some o ∧ Q o
def thenO (k : S → Prop) (Q : Out → Prop) : Out → Prop
  | .nx s => k s
  | o => Q o
def iteB (k : Bool) (A B : Prop) : Prop := match k with
  | true => A
  | false => B
theorem iteB_t {A B : Prop} (h : A) : iteB true A B := h
theorem iteB_f {A B : Prop} (h : B) : iteB false A B := h
theorem iteB_by {k : Bool} {A B : Prop} (h1 : k = true → A) (h2 : k = false → B) : iteB k A B := by
  cases k with
  | true => exact h1 rfl
  | false => exact h2 rfl
section
variable {α β : Type} {s s1 : S} {Q : α → S → Prop} {R : β → S → Prop} {m : M α}
theorem Wp.mono {Q' : α → S → Prop} (h : Wp m s Q) (q : ∀ a s1, Q a s1 → Q' a s1) : Wp m s Q' := by
  obtain ⟨a, s1, e, z⟩ := h
  exact ⟨a, s1, e, q a s1 z⟩
theorem w_bind {f : α → M β} (h : Wp m s fun a s1 => Wp (f a) s1 R) : Wp (bindM m f) s R := by
  obtain ⟨a, s1, e, b, s2, e2, q⟩ := h
  exact ⟨b, s2, by unfold bindM; rw [e]; exact e2, q⟩
theorem w_ret {a : α} (h : Q a s) : Wp (retM a) s Q := ⟨a, s, rfl, h⟩
theorem w_opt {o : Option α} {a : α} (e : o = some a) (h : Q a s) : Wp (optM o) s Q := ⟨a, s, by unfold optM; rw [e]; rfl, h⟩
theorem w_ifM {c : M Bool} {a b : M α} (h : Wp c s fun k s1 => iteB k (Wp a s1 Q) (Wp b s1 Q)) : Wp (ifM c a b) s Q := w_bind (h.mono fun k s1 z => by cases k <;> exact z)
end
section
variable {s s1 : S} {Q : D → S → Prop} {QB : Bool → S → Prop} {QO : O → S → Prop} {a b m : M D} {c c1 c2 : M Bool}
theorem w_var {i : Nat} {d : D} (e : s[i]? = some (some (.d d))) (h : Q d s) : Wp (mVar i) s Q := ⟨d, s, by unfold mVar; rw [e], h⟩
theorem w_bin {f : D → D → Option D} (h : Wp a s fun x s1 => Wp b s1 fun y s2 => Wp (optM (f x y)) s2 Q) : Wp (mBin f a b) s Q := w_bind (h.mono fun _ _ z => w_bind z)
theorem w_andB (h : Wp c1 s fun k s1 => iteB k (Wp c2 s1 QB) (QB false s1)) : Wp (andB c1 c2) s QB := w_bind (h.mono fun k s1 z => by cases k; exact w_ret z; exact z)
theorem w_orB (h : Wp c1 s fun k s1 => iteB k (QB true s1) (Wp c2 s1 QB)) : Wp (orB c1 c2) s QB := w_bind (h.mono fun k s1 z => by cases k; exact z; exact w_ret z)
theorem w_andV (h : Wp a s fun x s1 => ∃ k, truD x = some k ∧ iteB k (Wp b s1 Q) (Q x s1)) : Wp (andV a b) s Q := w_bind (h.mono fun x s1 ⟨k, e, z⟩ => w_bind (w_opt e (by cases k; exact w_ret z; exact z)))
theorem w_orV (h : Wp a s fun x s1 => ∃ k, truD x = some k ∧ iteB k (Q x s1) (Wp b s1 Q)) : Wp (orV a b) s Q := w_bind (h.mono fun x s1 ⟨k, e, z⟩ => w_bind (w_opt e (by cases k; exact z; exact w_ret z)))
theorem w_frzD {i : Nat} {d : D} (e : s[i]? = some (some (.d d))) (h : Q d s) : Wp (frzN i) s Q := ⟨d, s, by unfold frzN; rw [e], h⟩
theorem w_frzO {i : Nat} {o : O} (e : s[i]? = some (some (.own o))) (h : Q o.d (s.set i (some (.d o.d)))) : Wp (frzN i) s Q := ⟨o.d, _, by unfold frzN; rw [e], h⟩
theorem w_mul {i j : Int} (c : CMul i j) (h : Q (.int (i * j)) s) : Wp (optM (mulD (.int i) (.int j))) s Q := w_opt (by show (if CMul i j then some (D.int (i * j)) else none) = _; rw [if_pos c]) h
theorem w_div {i j : Int} (c : CDivN i j) (h : Q (.int (i.fdiv j)) s) : Wp (optM (divD (.int i) (.int j))) s Q := w_opt (by show (if CDivN i j then some (D.int (i.fdiv j)) else none) = _; rw [if_pos c]) h
theorem w_mod {i j : Int} (c : j ≠ 0) (h : Q (.int (i.fmod j)) s) : Wp (optM (modD (.int i) (.int j))) s Q := w_opt (by show (if j ≠ 0 then some (D.int (i.fmod j)) else none) = _; rw [if_pos c]) h
theorem w_pow {i j : Int} (c : CPow i j) (h : Q (.int (i ^ j.toNat)) s) : Wp (optM (powD (.int i) (.int j))) s Q := w_opt (by show (if CPow i j then some (D.int (i ^ j.toNat)) else none) = _; rw [if_pos c]) h
theorem w_lstM {ds : List D} (c : ds.length ≤ sizeLine) (h : QO (.lst ds) s) : Wp (optM (lstM ds)) s QO := w_opt (by unfold lstM; rw [if_pos c]) h
theorem w_tupM {ds : List D} (c : ds.length ≤ sizeLine) (h : Q (.tup ds) s) : Wp (optM (tupM ds)) s Q := w_opt (by unfold tupM; rw [if_pos c]) h
theorem mLs_d {i : Nat} {ds : List D} (e : s[i]? = some (some (.d (.lst ds)))) : mLs i s = some (ds, s) := by unfold mLs; rw [e]
theorem mLs_o {i : Nat} {ds : List D} (e : s[i]? = some (some (.own (.lst ds)))) : mLs i s = some (ds, s) := by unfold mLs; rw [e]
theorem w_ixO {i : Nat} {ds : List D} {d : D} {j : Int} (e : s[i]? = some (some (.own (.lst ds)))) (e2 : atI ds j = some d) (h : Q d s) : Wp (ixN i (retM (.int j))) s Q := w_bind ⟨ds, s, mLs_o e, w_bind (w_ret (w_bind ⟨ds, s, mLs_o e, w_opt e2 h⟩))⟩
theorem w_ixD {i : Nat} {ds : List D} {d : D} {j : Int} (e : s[i]? = some (some (.d (.lst ds)))) (e2 : atI ds j = some d) (h : Q d s) : Wp (ixN i (retM (.int j))) s Q := w_bind ⟨ds, s, mLs_d e, w_bind (w_ret (w_bind ⟨ds, s, mLs_d e, w_opt e2 h⟩))⟩
theorem w_lenO {i : Nat} {ds : List D} (e : s[i]? = some (some (.own (.lst ds)))) (h : Q (.int ds.length) s) : Wp (lenN i) s Q := w_bind ⟨ds, s, mLs_o e, w_ret h⟩
end
section
variable {s : S} {Q : Out → Prop} {a b : MS} {m : M D} {mo : M O} {c : M Bool}
theorem WS.mono {Q' : Out → Prop} (h : WS a s Q) (q : ∀ o, Q o → Q' o) : WS a s Q' := by
  obtain ⟨o, e, z⟩ := h
  exact ⟨o, e, q o z⟩
theorem v_seq (h : WS a s (thenO (fun s1 => WS b s1 Q) Q)) : WS (seqM a b) s Q := by
  obtain ⟨o, e, z⟩ := h
  cases o with
  | nx s1 =>
    obtain ⟨o2, e2, q⟩ := z
    exact ⟨o2, by unfold seqM; rw [e]; exact e2, q⟩
  | _ => exact ⟨_, by unfold seqM; rw [e]; rfl, z⟩
theorem v_nx (h : Q (.nx s)) : WS nxM s Q := ⟨_, rfl, h⟩
theorem v_ret (h : Wp m s fun d s1 => Q (.rd d s1)) : WS (retMS m) s Q := by
  obtain ⟨d, s1, e, q⟩ := h
  exact ⟨_, by unfold retMS; rw [e]; rfl, q⟩
theorem v_retO (h : Wp mo s fun d s1 => Q (.ro d s1)) : WS (retOS mo) s Q := by
  obtain ⟨d, s1, e, q⟩ := h
  exact ⟨_, by unfold retOS; rw [e]; rfl, q⟩
theorem v_if (h : Wp c s fun k s1 => iteB k (WS a s1 Q) (WS b s1 Q)) : WS (ifS c a b) s Q := by
  obtain ⟨k, s1, e, z⟩ := h
  cases k with
  | true => obtain ⟨o, e2, q⟩ := z; exact ⟨o, by unfold ifS; rw [e]; exact e2, q⟩
  | false => obtain ⟨o, e2, q⟩ := z; exact ⟨o, by unfold ifS; rw [e]; exact e2, q⟩
theorem v_asgF {f : D → S → Option S} (h : Wp m s fun d s1 => ∃ s2, f d s1 = some s2 ∧ Q (.nx s2)) : WS (asgM m f) s Q := by
  obtain ⟨d, s1, e, s2, e2, q⟩ := h
  exact ⟨_, by unfold asgM; rw [e]; show Option.map _ (f d s1) = _; rw [e2]; rfl, q⟩
theorem v_asg {i : Nat} (h : Wp m s fun d s1 => Q (.nx (s1.set i (some (.d d))))) : WS (asgM m (setF i)) s Q := v_asgF (h.mono fun d s1 z => ⟨_, rfl, z⟩)
theorem v_asgO {i : Nat} (h : Wp mo s fun o s1 => Q (.nx (s1.set i (some (.own o))))) : WS (asgO mo i) s Q := by
  obtain ⟨d, s1, e, q⟩ := h
  exact ⟨_, by unfold asgO; rw [e]; rfl, q⟩
theorem v_drop (h : Wp m s fun d s1 => Q (.nx s1)) : WS (dropM m) s Q := by
  obtain ⟨d, s1, e, q⟩ := h
  exact ⟨_, by unfold dropM; rw [e]; rfl, q⟩
theorem v_par {i j : Nat} {ms : M (List D)} (h : Wp ms s fun ds s1 => ∃ x y, ds = [x, y] ∧ Q (.nx ((s1.set i (some (.d x))).set j (some (.d y))))) : WS (parM i j ms) s Q := by
  obtain ⟨ds, s1, e, x, y, rfl, q⟩ := h
  exact ⟨_, by unfold parM; rw [e]; rfl, q⟩
theorem v_put {i : Nat} {mi : M D} (h : Wp m s fun d s1 => ∃ ds, s1[i]? = some (some (.own (.lst ds))) ∧ Wp mi s1 fun j s2 => ∃ es n k, s2[i]? = some (some (.own (.lst es))) ∧ j = .int n ∧ L2.ixN es.length n = some k ∧ Q (.nx (s2.set i (some (.own (.lst (es.set k d))))))) : WS (putN i mi m) s Q := by
  obtain ⟨d, s1, e, ds, e1, j, s2, e2, es, n, k, e3, rfl, e4, q⟩ := h
  have e4 : putN.ixN' es.length n = some k := e4
  refine ⟨_, ?_, q⟩
  unfold putN
  simp only [bindM, e, Option.bind, mOwn, e1, e2, e3, optM, intD, e4, mPut, Option.map]
theorem v_app {i : Nat} (h : Wp m s fun d s1 => ∃ es, s1[i]? = some (some (.own (.lst es))) ∧ es.length < sizeLine ∧ Q (.nx (s1.set i (some (.own (.lst (es ++ [d]))))))) {ds : List D} (e0 : s[i]? = some (some (.own (.lst ds)))) : WS (appN i m) s Q := by
  obtain ⟨d, s1, e, es, e1, e2, q⟩ := h
  refine ⟨_, ?_, q⟩
  unfold appN
  simp only [bindM, e0, e, Option.bind, mOwn, e1, if_pos e2, optM, mPut, Option.map]
end
/-! loops -/
section
variable {Q : Out → Prop} {asg : D → S → Option S} {b : MS}
theorem loopM_cons {d : D} {ds : List D} {s : S} : loopM asg b (d :: ds) s = (asg d s).bind fun s1 => (b s1).bind fun o => match o with
    | .nx s2 => loopM asg b ds s2
    | .ct s2 => loopM asg b ds s2
    | .bk s2 => some (.nx s2)
    | r => some r := rfl
/-- items one behind another; inv: what holds before each of them -/
theorem loop_ok {inv : List D → S → Prop} (step : ∀ d ds s, inv (d :: ds) s → ∃ s1, asg d s = some s1 ∧ WS b s1 fun o => match o with
    | .nx s2 => inv ds s2
    | .ct s2 => inv ds s2
    | .bk s2 => Q (.nx s2)
    | r => Q r) (done : ∀ s, inv [] s → Q (.nx s)) : ∀ (ds : List D) (s : S), inv ds s → WS (loopM asg b ds) s Q
  | [], s, h => ⟨_, rfl, done s h⟩
  | d :: ds, s, h => by
    obtain ⟨s1, e1, o, e2, z⟩ := step d ds s h
    have go : ∀ s2, inv ds s2 → WS (loopM asg b ds) s2 Q := loop_ok step done ds
    cases o with
    | nx s2 => obtain ⟨o, e, q⟩ := go s2 z; exact ⟨o, by rw [loopM_cons, e1]; show (b s1).bind _ = _; rw [e2]; exact e, q⟩
    | ct s2 => obtain ⟨o, e, q⟩ := go s2 z; exact ⟨o, by rw [loopM_cons, e1]; show (b s1).bind _ = _; rw [e2]; exact e, q⟩
    | bk s2 => exact ⟨_, by rw [loopM_cons, e1]; show (b s1).bind _ = _; rw [e2]; rfl, z⟩
    | rd d s2 => exact ⟨_, by rw [loopM_cons, e1]; show (b s1).bind _ = _; rw [e2]; rfl, z⟩
    | ro d s2 => exact ⟨_, by rw [loopM_cons, e1]; show (b s1).bind _ = _; rw [e2]; rfl, z⟩
theorem v_forR {s : S} {ms : M (List D)} {rng : List D → Option (List D)} (h : Wp ms s fun xs s1 => ∃ ds, rng xs = some ds ∧ WS (loopM asg b ds) s1 Q) : WS (forR ms rng asg b) s Q := by
  obtain ⟨xs, s1, e, ds, e1, o, e2, q⟩ := h
  exact ⟨o, by unfold forR; rw [e]; show (rng xs).bind _ = _; rw [e1]; exact e2, q⟩
theorem v_forL {s : S} {mi : M D} (h : Wp mi s fun x s1 => ∃ ds, itD x = some ds ∧ WS (loopM asg b ds) s1 Q) : WS (forL mi asg b) s Q := by
  obtain ⟨xs, s1, e, ds, e1, o, e2, q⟩ := h
  exact ⟨o, by unfold forL; rw [e]; show (itD xs).bind _ = _; rw [e1]; exact e2, q⟩
theorem v_forE {s : S} {mi : M D} {fs : List D → S → Option S} (h : Wp mi s fun x s1 => ∃ ds, tupLs x = some ds ∧ WS (loopM (tupF 2 fs) b (enumD ds)) s1 Q) : WS (forE mi fs b) s Q := by
  obtain ⟨xs, s1, e, ds, e1, o, e2, q⟩ := h
  exact ⟨o, by unfold forE; rw [e]; show (tupLs xs).bind _ = _; rw [e1]; exact e2, q⟩
end
/-! comprehensions: each item's value by its own -/
section
variable {vs : List Nat} {asg : D → S → Option S} {c : M Bool} {elt : M D}
theorem comp_ok {inv : List D → List D → S → Prop} (step : ∀ d ds acc s, inv (d :: ds) acc s → ∃ s1, asg d s = some s1 ∧ Wp c s1 fun k s2 => iteB k (Wp elt s2 fun y s3 => acc.length < sizeLine ∧ inv ds (acc ++ [y]) (wipeS vs s3)) (inv ds acc (wipeS vs s2))) :
    ∀ (ds acc : List D) (s : S), inv ds acc s → ∃ r, compL vs asg c elt ds acc s = some r ∧ inv [] r.1 r.2
  | [], acc, s, h => ⟨(acc, s), rfl, h⟩
  | d :: ds, acc, s, h => by
    obtain ⟨s1, e1, k, s2, e2, z⟩ := step d ds acc s h
    unfold compL
    rw [e1]
    show ∃ r, (c s1).bind _ = some r ∧ _
    rw [e2]
    cases k with
    | false => exact comp_ok step ds acc _ z
    | true =>
      obtain ⟨y, s3, e3, l, z⟩ := z
      obtain ⟨r, e4, q⟩ := comp_ok step ds _ _ z
      refine ⟨r, ?_, q⟩
      show (elt s2).bind _ = some r
      rw [e3]
      show (if acc.length < sizeLine then _ else none) = some r
      rw [if_pos l]
      exact e4
theorem w_comp {Q : O → S → Prop} {s : S} {items : List D} {inv : List D → List D → S → Prop} (hn : noOwn vs s = true) (h0 : inv items [] (wipeS vs s))
    (step : ∀ d ds acc s, inv (d :: ds) acc s → ∃ s1, asg d s = some s1 ∧ Wp c s1 fun k s2 => iteB k (Wp elt s2 fun y s3 => acc.length < sizeLine ∧ inv ds (acc ++ [y]) (wipeS vs s3)) (inv ds acc (wipeS vs s2)))
    (done : ∀ acc s2, inv [] acc s2 → Q (.lst acc) (restS s vs s2)) : Wp (compM vs asg c elt items) s Q := by
  obtain ⟨r, e, q⟩ := comp_ok step items [] _ h0
  exact ⟨.lst r.1, _, by unfold compM; rw [if_pos hn, e]; rfl, done _ _ q⟩
theorem w_cplR {Q : O → S → Prop} {s : S} {ms : M (List D)} {rng : List D → Option (List D)} (h : Wp ms s fun xs s1 => ∃ ds, rng xs = some ds ∧ Wp (compM vs asg c elt ds) s1 Q) : Wp (cplR ms rng vs asg c elt) s Q := by
  obtain ⟨xs, s1, e, ds, e1, o, s2, e2, q⟩ := h
  exact ⟨o, s2, by unfold cplR; rw [e]; show (rng xs).bind _ = _; rw [e1]; exact e2, q⟩
theorem w_cplL {Q : O → S → Prop} {s : S} {mi : M D} (h : Wp mi s fun x s1 => ∃ ds, itD x = some ds ∧ Wp (compM vs asg c elt ds) s1 Q) : Wp (cplL mi vs asg c elt) s Q := by
  obtain ⟨xs, s1, e, ds, e1, o, s2, e2, q⟩ := h
  exact ⟨o, s2, by unfold cplL; rw [e]; show (itD xs).bind _ = _; rw [e1]; exact e2, q⟩
end
/-! calls: by what the body comes to -/
section
variable {n : Nat} {body : MS} {s : S} {Q : D → S → Prop} {ms : M (List D)}
theorem w_callD {dd : List D} (h : Wp ms s fun xs s1 => WS body (startS n ((xs ++ dd).map .d)) fun o => match o with
    | .rd d _ => Q d s1
    | .nx _ => Q .non s1
    | _ => False) : Wp (callD n body ms dd) s Q := by
  obtain ⟨xs, s1, e, o, e1, q⟩ := h
  cases o with
  | rd d s2 => exact ⟨d, s1, by unfold callD callR; rw [e]; show (body _).bind _ = _; rw [e1]; rfl, q⟩
  | nx s2 => exact ⟨_, s1, by unfold callD callR; rw [e]; show (body _).bind _ = _; rw [e1]; rfl, q⟩
  | _ => exact q.elim
theorem w_callO {QO : O → S → Prop} {dd : List D} (h : Wp ms s fun xs s1 => WS body (startS n ((xs ++ dd).map .d)) fun o => match o with
    | .ro d _ => QO d s1
    | _ => False) : Wp (callO n body ms dd) s QO := by
  obtain ⟨xs, s1, e, o, e1, q⟩ := h
  cases o with
  | ro d s2 => exact ⟨d, s1, by unfold callO callR; rw [e]; show (body _).bind _ = _; rw [e1]; rfl, q⟩
  | _ => exact q.elim
theorem w_lendD {i : Nat} {o0 : O} (e0 : slotO i s = some o0) (h : Wp ms s fun xs s1 => ∃ o1, slotO i s1 = some o1 ∧ WS body (startS n (.own o1 :: xs.map .d)) fun o => match o with
    | .rd d s2 => ∃ o', firstO s2 = some o' ∧ Q d (s1.set i (some (.own o')))
    | .nx s2 => ∃ o', firstO s2 = some o' ∧ Q .non (s1.set i (some (.own o')))
    | _ => False) : Wp (lendD n body i ms) s Q := by
  obtain ⟨xs, s1, e, o1, e2, o, e1, q⟩ := h
  cases o with
  | rd d s2 => obtain ⟨o', e3, q⟩ := q; exact ⟨d, _, by unfold lendD callR; rw [e0]; show (ms s).bind _ = _; rw [e]; show (slotO i s1).bind _ = _; rw [e2]; show (body _).bind _ = _; rw [e1]; show (firstO s2).map _ = _; rw [e3]; rfl, q⟩
  | nx s2 => obtain ⟨o', e3, q⟩ := q; exact ⟨_, _, by unfold lendD callR; rw [e0]; show (ms s).bind _ = _; rw [e]; show (slotO i s1).bind _ = _; rw [e2]; show (body _).bind _ = _; rw [e1]; show (firstO s2).map _ = _; rw [e3]; rfl, q⟩
  | _ => exact q.elim
theorem w_lendO {i : Nat} {o0 : O} {QO : O → S → Prop} (e0 : slotO i s = some o0) (h : Wp ms s fun xs s1 => ∃ o1, slotO i s1 = some o1 ∧ WS body (startS n (.own o1 :: xs.map .d)) fun o => match o with
    | .ro d s2 => ∃ o', firstO s2 = some o' ∧ QO d (s1.set i (some (.own o')))
    | _ => False) : Wp (lendO n body i ms) s QO := by
  obtain ⟨xs, s1, e, o1, e2, o, e1, q⟩ := h
  cases o with
  | ro d s2 => obtain ⟨o', e3, q⟩ := q; exact ⟨d, _, by unfold lendO callR; rw [e0]; show (ms s).bind _ = _; rw [e]; show (slotO i s1).bind _ = _; rw [e2]; show (body _).bind _ = _; rw [e1]; show (firstO s2).map _ = _; rw [e3]; rfl, q⟩
  | _ => exact q.elim
theorem w_giveD {mo : M O} (h : Wp mo s fun o1 s1 => WS body (startS n [.own o1]) fun o => match o with
    | .rd d _ => Q d s1
    | .nx _ => Q .non s1
    | _ => False) : Wp (giveD n body mo) s Q := by
  obtain ⟨xs, s1, e, o, e1, q⟩ := h
  cases o with
  | rd d s2 => exact ⟨d, s1, by unfold giveD callR; rw [e]; show (body _).bind _ = _; rw [e1]; rfl, q⟩
  | nx s2 => exact ⟨_, s1, by unfold giveD callR; rw [e]; show (body _).bind _ = _; rw [e1]; rfl, q⟩
  | _ => exact q.elim
end
theorem w_binO {f : D → D → Option O} {a b : M D} {s : S} {Q : O → S → Prop} (h : Wp a s fun x s1 => Wp b s1 fun y s2 => Wp (optM (f x y)) s2 Q) : Wp (mBinO f a b) s Q := w_bind (h.mono fun _ _ z => w_bind z)
theorem own_of {n : Nat} {body : MS} {as : List D} {d : D} (h : WS body (startS n (as.map .d)) fun out => ∃ s2, out = .rd d s2) : ownM n body as = some d := by
  obtain ⟨o, e, s2, rfl⟩ := h
  unfold ownM callR
  rw [e]
  rfl
theorem w_own {n : Nat} {body : MS} {s : S} {Q : D → S → Prop} {ms : M (List D)} {d : D} {as : List D} (o : ownM n body as = some d) (h : Wp ms s fun xs s1 => xs = as ∧ Q d s1) : Wp (callD n body ms []) s Q := by
  obtain ⟨xs, s1, e, rfl, q⟩ := h
  unfold ownM at o
  simp only [Option.bind_eq_some_iff] at o
  obtain ⟨r, e2, o⟩ := o
  refine w_callD ⟨xs, s1, e, r, by rw [List.append_nil]; exact e2, ?_⟩
  cases r with
  | rd x s2 => cases o; exact q
  | nx s2 => cases o; exact q
  | _ => cases o
/-! comprehensions that leave all as it is -/
section
variable {α β : Type} {vs vs1 : List Nat} {asg asg1 : D → S → Option S} {c c1 : M Bool} {elt : M D} {s0 : S}
theorem comp_fun {e : α → D} {p : α → Bool} {f : α → D} : ∀ (xs : List α) (acc : List D), (∀ a ∈ xs, ∃ s1, asg (e a) s0 = some s1 ∧ Wp c s1 fun k s2 => k = p a ∧ iteB k (Wp elt s2 fun y s3 => y = f a ∧ wipeS vs s3 = s0) (wipeS vs s2 = s0)) → acc.length + xs.length ≤ sizeLine →
    compL vs asg c elt (xs.map e) acc s0 = some (acc ++ (xs.filter p).map f, s0)
  | [], acc, _, _ => by simp [compL]
  | a :: xs, acc, h, l => by
    obtain ⟨s1, e1, k, s2, e2, hk, z⟩ := h a (by simp)
    have ih := fun acc l => comp_fun (e := e) (p := p) (f := f) xs acc (fun y hy => h y (by simp [hy])) l
    simp only [List.length_cons] at l
    show (asg (e a) s0).bind _ = _
    rw [e1, Option.bind_some, e2, Option.bind_some]
    cases k with
    | false =>
      show compL vs asg c elt (xs.map e) acc (wipeS vs s2) = _
      have z : wipeS vs s2 = s0 := z
      rw [z, ih acc (by omega), List.filter_cons_of_neg (by rw [← hk]; decide)]
    | true =>
      obtain ⟨y, s3, e3, rfl, z⟩ := z
      show (elt s2).bind _ = _
      rw [e3, Option.bind_some]
      show (if acc.length < sizeLine then compL vs asg c elt (xs.map e) (acc ++ [f a]) (wipeS vs s3) else none) = _
      rw [if_pos (by omega), z, ih (acc ++ [f a]) (by simp; omega), List.filter_cons_of_pos (by rw [← hk]), List.map_cons, List.append_assoc, List.singleton_append]
theorem w_compF {e : α → D} {p : α → Bool} {f : α → D} {s : S} {Q : O → S → Prop} {items : List D} (xs : List α) (hi : items = xs.map e) (hn : noOwn vs s = true) (l : xs.length ≤ sizeLine)
    (h : ∀ a ∈ xs, ∃ s1, asg (e a) (wipeS vs s) = some s1 ∧ Wp c s1 fun k s2 => k = p a ∧ iteB k (Wp elt s2 fun y s3 => y = f a ∧ wipeS vs s3 = wipeS vs s) (wipeS vs s2 = wipeS vs s)) (q : Q (.lst ((xs.filter p).map f)) (restS s vs (wipeS vs s))) : Wp (compM vs asg c elt items) s Q := by
  subst hi
  refine ⟨.lst ((xs.filter p).map f), restS s vs (wipeS vs s), ?_, q⟩
  unfold compM
  rw [if_pos hn, comp_fun (e := e) (p := p) (f := f) xs [] h (by simpa using l)]
  simp
end
theorem thenO_nx {k : S → Prop} {Q : Out → Prop} {s : S} (h : k s) : thenO k Q (.nx s) := h
theorem thenO_rd {k : S → Prop} {Q : Out → Prop} {d : D} {s : S} (h : Q (.rd d s)) : thenO k Q (.rd d s) := h
theorem thenO_ro {k : S → Prop} {Q : Out → Prop} {d : O} {s : S} (h : Q (.ro d s)) : thenO k Q (.ro d s) := h
theorem w_slM {α : Type} {f : D → Option Int → Option Int → Option α} {a : M D} {l u : M (Option Int)} {s : S} {Q : α → S → Prop} (h : Wp a s fun x s1 => Wp l s1 fun lo s2 => Wp u s2 fun hi s3 => Wp (optM (f x lo hi)) s3 Q) : Wp (slM f a l u) s Q := w_bind (h.mono fun _ _ z => w_bind (z.mono fun _ _ z => w_bind z))
theorem w_chM {f g : D → D → Option D} {a b c : M D} {s : S} {Q : D → S → Prop} (h : Wp a s fun x s1 => Wp b s1 fun y s2 => ∃ k, f x y = some (.bl k) ∧ iteB k (Wp c s2 fun z s3 => Wp (optM (g y z)) s3 Q) (Q (.bl false) s2)) : Wp (chM f g a b c) s Q :=
  w_bind (h.mono fun x s1 z => w_bind (z.mono fun y s2 ⟨k, e, q⟩ => w_bind (w_opt e (by cases k; exact w_ret q; exact w_bind q))))
theorem iteB_tt {k : Bool} {A B : Prop} (e : k = true) (h : A) : iteB k A B := by subst e; exact h
theorem iteB_ff {k : Bool} {A B : Prop} (e : k = false) (h : B) : iteB k A B := by subst e; exact h
theorem shaped_str {x : Str} : SeqAt.shaped (.str x) = PyData.strOk x := by unfold SeqAt.shaped; simp [PyData.canLay0, PyData.depth]
theorem w_eqS {neg : Bool} {a b : Str} {s : S} {Q : D → S → Prop} (ha : PyData.strOk a = true) (hb : PyData.strOk b = true) (h : Q (.bl (neg ^^ (a == b))) s) : Wp (optM (eqD neg (.str a) (.str b))) s Q := by
  refine w_opt ?_ h
  show (if SeqAt.shaped (.str a) = true ∧ SeqAt.shaped (.str b) = true then some (D.bl (neg ^^ PyData.eqv (.str a) (.str b))) else none) = _
  rw [if_pos ⟨shaped_str.trans ha, shaped_str.trans hb⟩]
  simp only [PyData.eqv]
theorem v_par3 {i j k : Nat} {ms : M (List D)} {s : S} {Q : Out → Prop} (h : Wp ms s fun ds s1 => ∃ x y z, ds = [x, y, z] ∧ Q (.nx (((s1.set i (some (.d x))).set j (some (.d y))).set k (some (.d z))))) : WS (parM3 i j k ms) s Q := by
  obtain ⟨ds, s1, e, x, y, z, rfl, q⟩ := h
  exact ⟨_, by unfold parM3; rw [e]; rfl, q⟩
end Fli
set_option Elab.async false
set_option linter.all false
set_option maxRecDepth 100000
set_option maxHeartbeats 4000000
namespace Fli
open PySem L2
local macro_rules | `(tactic| array_get_dec) => `(tactic| (repeat (first | ((with_reducible change WS _ _ _); first | with_reducible refine v_seq ?_ | with_reducible refine v_nx ?_ | with_reducible refine v_ret ?_ | with_reducible refine v_retO ?_ | with_reducible refine v_if ?_ | with_reducible refine v_asg ?_ | with_reducible refine v_asgO ?_ | with_reducible refine v_asgF ?_ | with_reducible refine v_drop ?_ | with_reducible refine v_par ?_ | with_reducible refine v_par3 ?_ | with_reducible refine v_put ?_) | ((with_reducible change Wp (optM _) _ _); first | ((with_reducible show Wp (optM (blD _)) _ _); refine w_opt rfl ?_) | ((with_reducible show Wp (optM (truD _)) _ _); refine w_opt rfl ?_) | ((with_reducible refine w_eqS ?_ ?_ ?_); (first | assumption | decide +kernel); (first | assumption | decide +kernel)) | ((with_reducible refine w_tupM ?_ ?_); exact of_decide_eq_true rfl) | ((with_reducible refine w_lstM ?_ ?_); exact of_decide_eq_true rfl) | with_reducible refine w_tupM ?_ ?_ | with_reducible refine w_lstM ?_ ?_ | ((with_reducible refine w_mul ?_ ?_); first | exact Or.inl ⟨of_decide_eq_true rfl, of_decide_eq_true rfl⟩ | exact Or.inr ⟨of_decide_eq_true rfl, of_decide_eq_true rfl⟩) | ((with_reducible refine w_mod ?_ ?_); exact of_decide_eq_true rfl) | ((with_reducible refine w_div ?_ ?_); exact ⟨of_decide_eq_true rfl, of_decide_eq_true rfl⟩) | ((with_reducible refine w_pow ?_ ?_); exact ⟨of_decide_eq_true rfl, of_decide_eq_true rfl, of_decide_eq_true rfl⟩) | with_reducible refine w_mul ?_ ?_ | with_reducible refine w_div ?_ ?_ | with_reducible refine w_mod ?_ ?_ | with_reducible refine w_pow ?_ ?_ | ((with_reducible show Wp (optM _) _ _); refine w_opt rfl ?_)) | ((with_reducible change Wp _ _ _); first | with_reducible refine w_bind ?_ | with_reducible refine w_bin ?_ | with_reducible refine w_binO ?_ | with_reducible refine w_ret ?_ | with_reducible refine w_ifM ?_ | with_reducible refine w_andB ?_ | with_reducible refine w_orB ?_ | with_reducible refine w_andV ?_ | with_reducible refine w_orV ?_ | with_reducible refine w_slM ?_ | with_reducible refine w_chM ?_ | ((with_reducible show Wp (mVar _) _ _); refine w_var rfl ?_) | ((with_reducible show Wp (ixN _ _) _ _); first | refine w_ixO rfl rfl ?_ | refine w_ixD rfl rfl ?_) | ((with_reducible show Wp (lenN _) _ _); refine w_lenO rfl ?_) | ((with_reducible show Wp (frzN _) _ _); first | refine w_frzO rfl ?_ | refine w_frzD rfl ?_)) | ((with_reducible change thenO _ _ _); first | with_reducible refine thenO_nx ?_ | with_reducible refine thenO_rd ?_ | with_reducible refine thenO_ro ?_) | ((with_reducible change iteB _ _ _); first | with_reducible refine iteB_t ?_ | with_reducible refine iteB_f ?_ | ((with_reducible refine iteB_tt ?_ ?_); decide +kernel) | ((with_reducible refine iteB_ff ?_ ?_); decide +kernel) | ((with_reducible refine iteB_tt ?_ ?_); assumption) | ((with_reducible refine iteB_ff ?_ ?_); assumption) | ((with_reducible show iteB _ _ _); first | refine iteB_tt rfl ?_ | refine iteB_ff rfl ?_)) | ((with_reducible show ∃ k, truD _ = some k ∧ iteB k _ _); refine ⟨_, rfl, ?_⟩) | ((with_reducible show ∃ k, cmpD _ _ _ = some (D.bl k) ∧ iteB k _ _); refine ⟨_, rfl, ?_⟩) | ((with_reducible show iteB _ _ _); first | refine iteB_tt rfl ?_ | refine iteB_ff rfl ?_) | ((with_reducible show Wp (mVar _) _ _); refine w_var rfl ?_) | ((with_reducible show Wp (ixN _ _) _ _); first | refine w_ixO rfl rfl ?_ | refine w_ixD rfl rfl ?_) | ((with_reducible show Wp (lenN _) _ _); refine w_lenO rfl ?_) | ((with_reducible show Wp (frzN _) _ _); first | refine w_frzO rfl ?_ | refine w_frzD rfl ?_) | ((with_reducible show Wp (optM _) _ _); refine w_opt rfl ?_))))
def Bag (o : O) : Prop := ∃ a b c : Int, o = .lst [.int a, .int b, .int c]
theorem fmod_lt {a b : Int} (h : 0 < b) : 0 ≤ a.fmod b ∧ a.fmod b < b := ⟨Int.fmod_nonneg_of_pos a h, Int.fmod_lt_of_pos a h⟩
theorem draw_ok {o : O} {w : Int} (hb : Bag o) (h0 : 0 < w) (h1 : w < 1000000) : WS m__law_draw (startS 5 [.own o, .d (.int w)]) fun out => ∃ v s2 o', out = .rd (.int v) s2 ∧ firstO s2 = some o' ∧ Bag o' ∧ 0 ≤ v ∧ v < w := by
  obtain ⟨a, b, c, rfl⟩ := hb
  unfold m__law_draw
  array_get_dec
  refine ⟨_, rfl, ?_⟩
  array_get_dec
  refine ⟨_, _, _, rfl, rfl, rfl, ?_⟩
  array_get_dec
  refine iteB_by (fun _ => ?_) (fun _ => ?_)
  · array_get_dec
    · omega
    · array_get_dec
      · exact ⟨by omega, by omega⟩
      · refine ⟨_, rfl, ?_⟩
        array_get_dec
        refine ⟨_, _, _, rfl, rfl, rfl, ?_⟩
        array_get_dec
        exact ⟨_, _, _, rfl, rfl, ⟨_, _, _, rfl⟩, fmod_lt h0⟩
  · array_get_dec
    · have q := fmod_lt (a := b + 61001 * (c + 1)) (b := 58013) (by decide)
      exact .inr ⟨by omega, by omega⟩
    · array_get_dec
      refine ⟨_, rfl, ?_⟩
      array_get_dec
      refine ⟨_, _, _, rfl, rfl, rfl, ?_⟩
      array_get_dec
      · omega
      · exact ⟨_, _, _, rfl, rfl, ⟨_, _, _, rfl⟩, fmod_lt h0⟩
end Fli
set_option Elab.async false
set_option linter.all false
set_option maxRecDepth 100000
set_option maxHeartbeats 4000000
namespace Fli
open PySem L2
local macro_rules | `(tactic| array_get_dec) => `(tactic| (repeat (first | ((with_reducible change WS _ _ _); first | with_reducible refine v_seq ?_ | with_reducible refine v_nx ?_ | with_reducible refine v_ret ?_ | with_reducible refine v_retO ?_ | with_reducible refine v_if ?_ | with_reducible refine v_asg ?_ | with_reducible refine v_asgO ?_ | with_reducible refine v_asgF ?_ | with_reducible refine v_drop ?_ | with_reducible refine v_par ?_ | with_reducible refine v_par3 ?_ | with_reducible refine v_put ?_) | ((with_reducible change Wp (optM _) _ _); first | ((with_reducible show Wp (optM (blD _)) _ _); refine w_opt rfl ?_) | ((with_reducible show Wp (optM (truD _)) _ _); refine w_opt rfl ?_) | ((with_reducible refine w_eqS ?_ ?_ ?_); (first | assumption | decide +kernel); (first | assumption | decide +kernel)) | ((with_reducible refine w_tupM ?_ ?_); exact of_decide_eq_true rfl) | ((with_reducible refine w_lstM ?_ ?_); exact of_decide_eq_true rfl) | with_reducible refine w_tupM ?_ ?_ | with_reducible refine w_lstM ?_ ?_ | ((with_reducible refine w_mul ?_ ?_); first | exact Or.inl ⟨of_decide_eq_true rfl, of_decide_eq_true rfl⟩ | exact Or.inr ⟨of_decide_eq_true rfl, of_decide_eq_true rfl⟩) | ((with_reducible refine w_mod ?_ ?_); exact of_decide_eq_true rfl) | ((with_reducible refine w_div ?_ ?_); exact ⟨of_decide_eq_true rfl, of_decide_eq_true rfl⟩) | ((with_reducible refine w_pow ?_ ?_); exact ⟨of_decide_eq_true rfl, of_decide_eq_true rfl, of_decide_eq_true rfl⟩) | with_reducible refine w_mul ?_ ?_ | with_reducible refine w_div ?_ ?_ | with_reducible refine w_mod ?_ ?_ | with_reducible refine w_pow ?_ ?_ | ((with_reducible show Wp (optM _) _ _); refine w_opt rfl ?_)) | ((with_reducible change Wp _ _ _); first | with_reducible refine w_bind ?_ | with_reducible refine w_bin ?_ | with_reducible refine w_binO ?_ | with_reducible refine w_ret ?_ | with_reducible refine w_ifM ?_ | with_reducible refine w_andB ?_ | with_reducible refine w_orB ?_ | with_reducible refine w_andV ?_ | with_reducible refine w_orV ?_ | with_reducible refine w_slM ?_ | with_reducible refine w_chM ?_ | ((with_reducible show Wp (mVar _) _ _); refine w_var rfl ?_) | ((with_reducible show Wp (ixN _ _) _ _); first | refine w_ixO rfl rfl ?_ | refine w_ixD rfl rfl ?_) | ((with_reducible show Wp (lenN _) _ _); refine w_lenO rfl ?_) | ((with_reducible show Wp (frzN _) _ _); first | refine w_frzO rfl ?_ | refine w_frzD rfl ?_)) | ((with_reducible change thenO _ _ _); first | with_reducible refine thenO_nx ?_ | with_reducible refine thenO_rd ?_ | with_reducible refine thenO_ro ?_) | ((with_reducible change iteB _ _ _); first | with_reducible refine iteB_t ?_ | with_reducible refine iteB_f ?_ | ((with_reducible refine iteB_tt ?_ ?_); decide +kernel) | ((with_reducible refine iteB_ff ?_ ?_); decide +kernel) | ((with_reducible refine iteB_tt ?_ ?_); assumption) | ((with_reducible refine iteB_ff ?_ ?_); assumption) | ((with_reducible show iteB _ _ _); first | refine iteB_tt rfl ?_ | refine iteB_ff rfl ?_)) | ((with_reducible show ∃ k, truD _ = some k ∧ iteB k _ _); refine ⟨_, rfl, ?_⟩) | ((with_reducible show ∃ k, cmpD _ _ _ = some (D.bl k) ∧ iteB k _ _); refine ⟨_, rfl, ?_⟩) | ((with_reducible show iteB _ _ _); first | refine iteB_tt rfl ?_ | refine iteB_ff rfl ?_) | ((with_reducible show Wp (mVar _) _ _); refine w_var rfl ?_) | ((with_reducible show Wp (ixN _ _) _ _); first | refine w_ixO rfl rfl ?_ | refine w_ixD rfl rfl ?_) | ((with_reducible show Wp (lenN _) _ _); refine w_lenO rfl ?_) | ((with_reducible show Wp (frzN _) _ _); first | refine w_frzO rfl ?_ | refine w_frzD rfl ?_) | ((with_reducible show Wp (optM _) _ _); refine w_opt rfl ?_))))
theorem w_draw {s : S} {i : Nat} {o : O} {w : Int} {ms : M (List D)} {Q : D → S → Prop} (e0 : slotO i s = some o) (hb : Bag o) (h0 : 0 < w) (h1 : w < 1000000) (hm : Wp ms s fun xs s1 => xs = [.int w] ∧ s1 = s)
    (h : ∀ v o', Bag o' → 0 ≤ v → v < w → Q (.int v) (s.set i (some (.own o')))) : Wp (lendD 5 m__law_draw i ms) s Q := by
  refine w_lendD e0 (hm.mono fun xs s1 ⟨e1, e2⟩ => ?_)
  subst e1
  subst e2
  refine ⟨o, e0, (draw_ok hb h0 h1).mono fun out ⟨v, s2, o', e, e3, b, l1, l2⟩ => ?_⟩
  subst e
  exact ⟨o', e3, h v o' b l1 l2⟩
theorem atI_lt {α : Type} {xs : List α} {i : Int} (h0 : 0 ≤ i) (h1 : i < xs.length) : ∃ a, atI xs i = some a ∧ a ∈ xs := by
  have l : i.toNat < xs.length := by omega
  refine ⟨xs[i.toNat], ?_, List.getElem_mem l⟩
  unfold atI L2.ixN
  rw [if_pos h0, if_pos h1]
  show xs[i.toNat]? = _
  rw [List.getElem?_eq_getElem l]
theorem bag_ok {ns : List Int} {k : Int} (h0 : 0 ≤ k) (h1 : k < 1000) : WS m__law_bag (startS N__law_bag.length [.d (.scr ns), .d (.int k)]) fun out => ∃ o s2, out = .ro o s2 ∧ Bag o := by
  have go : ∀ c : Int, WS (seqM (forL (slM slL (mVar 0) (retM none) (bindM (retM (.int 7)) fun d => optM ((intD d).map some))) (setF 4) (seqM (asgM (mBin modD (bindM (bindM (mBin addL (mBin addL (mBin mulD (mVar 3) (retM (.int 47717))) (mBin modD (bindM (bindM (mVar 4) fun d => bindM (retM []) fun ds => retM (d :: ds)) fun ds => optM (intcD ds)) (retM (.int 1000121)))) (mBin mulD (retM (.int 17)) (mVar 1))) fun d => bindM (retM []) fun ds => retM (d :: ds)) fun ds => optM (intcD ds)) (retM (.int 2147483549))) (setF 3)) nxM))
      (seqM (asgM (ifM (orB (bindM (mBin (cmpD fun i j => decide (i < j)) (mVar 2) (retM (.int 0))) fun d => optM (blD d)) (bindM (mBin (cmpD fun i j => decide (j ≤ i)) (mVar 2) (mBin powD (retM (.int 10)) (retM (.int 15)))) fun d => optM (blD d))) (bindM (bindM (mVar 2) fun d => bindM (retM []) fun ds => retM (d :: ds)) fun ds => optM (absD ds)) (retM (.int 0))) (setF 5))
      (seqM (retOS (bindM (bindM (mVar 5) fun d => bindM (bindM (mBin modD (bindM (bindM (mBin addL (mVar 3) (mBin mulD (retM (.int 97003)) (mBin modD (bindM (bindM (mVar 2) fun d => bindM (retM []) fun ds => retM (d :: ds)) fun ds => optM (intcD ds)) (retM (.int 999931))))) fun d => bindM (retM []) fun ds => retM (d :: ds)) fun ds => optM (intcD ds)) (retM (.int 2147483549))) fun d => bindM (bindM (retM (.int 0)) fun d => bindM (retM []) fun ds => retM (d :: ds)) fun ds => retM (d :: ds)) fun ds => retM (d :: ds)) fun ds => optM (lstM ds)))
      nxM))) [some (.d (.scr ns)), some (.d (.int k)), some (.d (.int c)), some (.d (.int (93997 * (k + 5)))), none, none] fun out => ∃ o s2, out = .ro o s2 ∧ Bag o := by
    intro c
    refine v_seq (v_forL ?_)
    array_get_dec
    refine ⟨_, rfl, ?_⟩
    refine loop_ok (inv := fun ds s => (∀ d ∈ ds, ∃ i, d = .int i) ∧ ∃ seed t, s = [some (.d (.scr ns)), some (.d (.int k)), some (.d (.int c)), some (.d (.int seed)), t, none]) ?_ ?_ _ _ ⟨?_, _, _, rfl⟩
    · rintro d ds s ⟨hd, seed, t, rfl⟩
      obtain ⟨i, rfl⟩ := hd d (by simp)
      refine ⟨_, rfl, ?_⟩
      array_get_dec
      show _ ∧ _
      exact ⟨fun d h => hd d (by simp [h]), _, _, rfl⟩
    · rintro s ⟨_, seed, t, rfl⟩
      array_get_dec
      refine iteB_by (fun _ => ?_) (fun _ => ?_)
      · array_get_dec
        exact ⟨_, _, rfl, ⟨_, _, _, rfl⟩⟩
      · array_get_dec
        refine iteB_by (fun _ => ?_) (fun _ => ?_)
        · array_get_dec
          exact ⟨_, _, rfl, ⟨_, _, _, rfl⟩⟩
        · array_get_dec
          exact ⟨_, _, rfl, ⟨_, _, _, rfl⟩⟩
    · intro d h
      simp only [List.mem_map] at h
      obtain ⟨i, _, rfl⟩ := h
      exact ⟨i, rfl⟩
  unfold m__law_bag
  array_get_dec
  refine iteB_by (fun hk => ?_) (fun _ => ?_)
  · have hk := of_decide_eq_true hk
    obtain ⟨i, e, _⟩ := atI_lt h0 hk
    array_get_dec
    refine w_opt (show ((atI ns k).map D.int) = some (.int i) by rw [e]; rfl) ?_
    array_get_dec
    exact ⟨_, _, rfl, go i⟩
  · array_get_dec
    exact ⟨_, _, rfl, go 0⟩
theorem w_one {s : S} {o : O} {xs : List D} {ms : M (List D)} {Q : D → S → Prop} (e0 : slotO 0 s = some o) (hb : Bag o) (hx : xs ≠ []) (hl : xs.length < 1000000) (hm : Wp ms s fun ys s1 => ys = [.lst xs] ∧ s1 = s)
    (h : ∀ v o', Bag o' → v ∈ xs → Q v (s.set 0 (some (.own o')))) : Wp (lendD 2 m__law_one 0 ms) s Q := by
  refine w_lendD e0 (hm.mono fun ys s1 ⟨e1, e2⟩ => ?_)
  subst e1
  subst e2
  refine ⟨o, e0, ?_⟩
  unfold m__law_one
  array_get_dec
  refine w_draw rfl hb (w := xs.length) (by cases xs with | nil => exact absurd rfl hx | cons _ _ => simp only [List.length_cons]; omega) (by omega) ?_ ?_
  · array_get_dec
    exact ⟨rfl, rfl⟩
  · intro v o' b h1 h2
    obtain ⟨y, e, hy⟩ := atI_lt h1 h2
    refine w_opt e ?_
    exact ⟨_, rfl, h y o' b hy⟩
def pool : List Str := ["a", "b", "c", "ab", "lamp", "on", "switches", "x", "abcdefgh", "aa", "z", "not", "y", "ba"]
theorem mem_erase {α : Type} {xs : List α} {i : Nat} {x y : α} (h : xs[i]? = some y) (nd : xs.Nodup) (hx : x ∈ xs.eraseIdx i) : x ∈ xs ∧ x ≠ y := by
  rw [List.mem_eraseIdx_iff_getElem?] at hx
  obtain ⟨j, ne, e⟩ := hx
  refine ⟨List.mem_of_getElem? e, ?_⟩
  rintro rfl
  obtain ⟨l1, e1⟩ := List.getElem?_eq_some_iff.mp e
  obtain ⟨l2, e2⟩ := List.getElem?_eq_some_iff.mp h
  exact ne ((List.getElem_inj nd).mp (e1.trans e2.symm))
theorem names_ok {o : O} {n : Int} (hb : Bag o) (h0 : 0 ≤ n) (h1 : n ≤ 10) : WS m__law_names (startS 4 [.own o, .d (.int n)]) fun out => ∃ (xs : List Str) (s2 : S) (o' : O), out = .rd (.tup (xs.map D.str)) s2 ∧ firstO s2 = some o' ∧ Bag o' ∧ xs.length = n.toNat ∧ xs.Nodup ∧ ∀ x ∈ xs, x ∈ pool := by
  unfold m__law_names
  array_get_dec
  refine w_cplR ?_
  array_get_dec
  refine ⟨rngD 0 n.toNat, ?_, ?_⟩
  · show (if okR n = true then _ else none) = _
    rw [if_pos (by unfold okR; exact decide_eq_true ⟨by omega, by omega⟩)]
  refine w_comp (inv := fun ds acc s => ∃ (xs ps : List Str) (o : O), acc = xs.map D.str ∧ xs.length + ds.length = n.toNat ∧ xs.Nodup ∧ ps.Nodup ∧ ps.length + xs.length = 14 ∧ (∀ x ∈ xs, x ∈ pool ∧ x ∉ ps) ∧ (∀ x ∈ ps, x ∈ pool) ∧ Bag o ∧ s = [some (.own o), some (.d (.int n)), some (.own (.lst (ps.map D.str))), none]) rfl ?_ ?_ ?_
  · refine ⟨[], pool, o, rfl, by simp [rngD], List.nodup_nil, by decide +kernel, rfl, (fun x h => nomatch h), (fun x h => h), hb, rfl⟩
  · rintro d ds acc s ⟨xs, ps, o, rfl, hl, nd, nd2, hn, hx, hp, hb, rfl⟩
    refine ⟨_, rfl, ?_⟩
    array_get_dec
    simp only [List.length_cons] at hl
    refine w_bind ⟨_, _, rfl, ?_⟩
    refine w_bind (w_draw rfl hb (w := (ps.map D.str).length) (by rw [List.length_map]; omega) (by rw [List.length_map]; omega) ?_ ?_)
    · array_get_dec
      exact ⟨rfl, rfl⟩
    · intro v o' b l0 l1
      rw [List.length_map] at l1
      refine w_bind ⟨_, _, rfl, ?_⟩
      refine w_bind (w_opt rfl ?_)
      have lt : v.toNat < ps.length := by omega
      have si : seqIndex? v (ps.map D.str).length = some v.toNat := by
        unfold seqIndex?
        rw [List.length_map]
        have n0 : ¬ v < 0 := by omega
        simp only [if_neg n0]
        rw [if_pos (by simp; omega)]
      refine w_bind (w_opt (by rw [if_pos ⟨by omega, by omega⟩]; exact si) ?_)
      obtain ⟨y, ey⟩ : ∃ y, ps[v.toNat]? = some y := ⟨_, List.getElem?_eq_getElem lt⟩
      refine w_bind (w_opt (a := .str y) (by rw [List.getElem?_map, ey]; rfl) ?_)
      refine w_bind ⟨(), _, rfl, ?_⟩
      array_get_dec
      have er : (ps.map D.str).eraseIdx v.toNat = (ps.eraseIdx v.toNat).map D.str := by simp only [List.eraseIdx_eq_take_drop_succ, List.map_append, List.map_take, List.map_drop]
      have le : (ps.eraseIdx v.toNat).length = ps.length - 1 := List.length_eraseIdx_of_lt lt
      have hy := List.mem_of_getElem? ey
      refine ⟨by rw [List.length_map]; exact Nat.lt_of_le_of_lt (by omega : xs.length ≤ 10) (by decide), xs ++ [y], ps.eraseIdx v.toNat, o', by simp, by simp; omega, ?_, nd2.sublist (List.eraseIdx_sublist _ _), by rw [le]; simp; omega, ?_, fun x h => hp x (List.mem_of_mem_eraseIdx h), b, ?_⟩
      · rw [List.nodup_append]
        refine ⟨nd, by simp, fun a ha z hz => ?_⟩
        simp only [List.mem_singleton] at hz
        subst hz
        rintro rfl
        exact (hx _ ha).2 hy
      · intro x h
        rcases List.mem_append.mp h with h | h
        · exact ⟨(hx x h).1, fun z => (hx x h).2 (List.mem_of_mem_eraseIdx z)⟩
        · simp only [List.mem_singleton] at h
          subst h
          exact ⟨hp _ hy, fun z => (mem_erase ey nd2 z).2 rfl⟩
      · rw [er]
        rfl
  · rintro acc s2 ⟨xs, ps, o, rfl, hl, nd, nd2, hn, hx, hp, hb, rfl⟩
    array_get_dec
    refine ⟨xs, _, o, rfl, rfl, hb, by simpa using hl, nd, fun x h => (hx x h).1⟩
end Fli
set_option Elab.async false
set_option linter.all false
set_option maxRecDepth 100000
set_option maxHeartbeats 1000000
namespace Fli
open PySem L2
local macro_rules | `(tactic| array_get_dec) => `(tactic| (repeat (first | ((with_reducible change WS _ _ _); first | with_reducible refine v_seq ?_ | with_reducible refine v_nx ?_ | with_reducible refine v_ret ?_ | with_reducible refine v_retO ?_ | with_reducible refine v_if ?_ | with_reducible refine v_asg ?_ | with_reducible refine v_asgO ?_ | with_reducible refine v_asgF ?_ | with_reducible refine v_drop ?_ | with_reducible refine v_par ?_ | with_reducible refine v_par3 ?_ | with_reducible refine v_put ?_) | ((with_reducible change Wp (optM _) _ _); first | ((with_reducible show Wp (optM (blD _)) _ _); refine w_opt rfl ?_) | ((with_reducible show Wp (optM (truD _)) _ _); refine w_opt rfl ?_) | ((with_reducible refine w_eqS ?_ ?_ ?_); (first | assumption | decide +kernel); (first | assumption | decide +kernel)) | ((with_reducible refine w_tupM ?_ ?_); exact of_decide_eq_true rfl) | ((with_reducible refine w_lstM ?_ ?_); exact of_decide_eq_true rfl) | with_reducible refine w_tupM ?_ ?_ | with_reducible refine w_lstM ?_ ?_ | ((with_reducible refine w_mul ?_ ?_); first | exact Or.inl ⟨of_decide_eq_true rfl, of_decide_eq_true rfl⟩ | exact Or.inr ⟨of_decide_eq_true rfl, of_decide_eq_true rfl⟩) | ((with_reducible refine w_mod ?_ ?_); exact of_decide_eq_true rfl) | ((with_reducible refine w_div ?_ ?_); exact ⟨of_decide_eq_true rfl, of_decide_eq_true rfl⟩) | ((with_reducible refine w_pow ?_ ?_); exact ⟨of_decide_eq_true rfl, of_decide_eq_true rfl, of_decide_eq_true rfl⟩) | with_reducible refine w_mul ?_ ?_ | with_reducible refine w_div ?_ ?_ | with_reducible refine w_mod ?_ ?_ | with_reducible refine w_pow ?_ ?_ | ((with_reducible show Wp (optM _) _ _); refine w_opt rfl ?_)) | ((with_reducible change Wp _ _ _); first | with_reducible refine w_bind ?_ | with_reducible refine w_bin ?_ | with_reducible refine w_binO ?_ | with_reducible refine w_ret ?_ | with_reducible refine w_ifM ?_ | with_reducible refine w_andB ?_ | with_reducible refine w_orB ?_ | with_reducible refine w_andV ?_ | with_reducible refine w_orV ?_ | with_reducible refine w_slM ?_ | with_reducible refine w_chM ?_ | ((with_reducible show Wp (mVar _) _ _); refine w_var rfl ?_) | ((with_reducible show Wp (ixN _ _) _ _); first | refine w_ixO rfl rfl ?_ | refine w_ixD rfl rfl ?_) | ((with_reducible show Wp (lenN _) _ _); refine w_lenO rfl ?_) | ((with_reducible show Wp (frzN _) _ _); first | refine w_frzO rfl ?_ | refine w_frzD rfl ?_)) | ((with_reducible change thenO _ _ _); first | with_reducible refine thenO_nx ?_ | with_reducible refine thenO_rd ?_ | with_reducible refine thenO_ro ?_) | ((with_reducible change iteB _ _ _); first | with_reducible refine iteB_t ?_ | with_reducible refine iteB_f ?_ | ((with_reducible refine iteB_tt ?_ ?_); decide +kernel) | ((with_reducible refine iteB_ff ?_ ?_); decide +kernel) | ((with_reducible refine iteB_tt ?_ ?_); assumption) | ((with_reducible refine iteB_ff ?_ ?_); assumption) | ((with_reducible show iteB _ _ _); first | refine iteB_tt rfl ?_ | refine iteB_ff rfl ?_)) | ((with_reducible show ∃ k, truD _ = some k ∧ iteB k _ _); refine ⟨_, rfl, ?_⟩) | ((with_reducible show ∃ k, cmpD _ _ _ = some (D.bl k) ∧ iteB k _ _); refine ⟨_, rfl, ?_⟩) | ((with_reducible show iteB _ _ _); first | refine iteB_tt rfl ?_ | refine iteB_ff rfl ?_) | ((with_reducible show Wp (mVar _) _ _); refine w_var rfl ?_) | ((with_reducible show Wp (ixN _ _) _ _); first | refine w_ixO rfl rfl ?_ | refine w_ixD rfl rfl ?_) | ((with_reducible show Wp (lenN _) _ _); refine w_lenO rfl ?_) | ((with_reducible show Wp (frzN _) _ _); first | refine w_frzO rfl ?_ | refine w_frzD rfl ?_) | ((with_reducible show Wp (optM _) _ _); refine w_opt rfl ?_))))
/-! equality of texts and numbers -/
theorem strs_map {xs : List Str} : strsD (xs.map D.str) = some xs := by
  induction xs with
  | nil => rfl
  | cons x xs ih => show (strsD (xs.map D.str)).map (x :: ·) = _; rw [ih]; rfl
theorem tix_ok {xs : List Str} {x : Str} (h : x ∈ xs) : ∃ j : Int, tixD (.tup (xs.map D.str)) (.str x) = some (.int j) ∧ 0 ≤ j ∧ j < xs.length := by
  have e : ∃ j, xs.findIdx? (· == x) = some j ∧ j < xs.length := by
    cases q : xs.findIdx? (· == x) with
    | none =>
      rw [List.findIdx?_eq_none_iff] at q
      have := q x h
      simp at this
    | some j =>
      rw [List.findIdx?_eq_some_iff_getElem] at q
      obtain ⟨l, _⟩ := q
      exact ⟨j, rfl, l⟩
  obtain ⟨j, e1, l⟩ := e
  refine ⟨j, ?_, by omega, by omega⟩
  show (strsD _).bind _ = _
  rw [strs_map]
  show (xs.findIdx? (· == x)).map _ = _
  rw [e1]
  rfl
def SIG : List Str := ["+", "-"]
def LitW : List Str := ["either", "needs", "bars"]
def NamW : List Str := ["same", "unlike"]
theorem sig_ok {g : Str} (h : g ∈ SIG) : PyData.strOk g = true := by
  simp only [SIG, List.mem_cons, List.not_mem_nil, or_false] at h
  rcases h with rfl | rfl <;> decide +kernel
/-- a setting's text -/
def Tex (z : Str) (n : Nat) : Prop := z.length = n ∧ n ≤ 10 ∧ ∀ c ∈ z.cps.toList, (⟨#[c]⟩ : Str) ∈ SIG
theorem at_tex {z : Str} {n : Nat} {i : Int} (t : Tex z n) (h0 : 0 ≤ i) (h1 : i < n) : ∃ c : Str, atD (.str z) (.int i) = some (.str c) ∧ c ∈ SIG := by
  obtain ⟨l, l2, l3⟩ := t
  have ls : z.length ≤ sizeLine := Nat.le_trans (by omega : z.length ≤ 10) (by decide)
  have lz : z.cps.toList.length = n := by rw [← l]; rfl
  obtain ⟨c, e, hc⟩ := atI_lt (xs := z.cps.toList) h0 (by rw [lz]; exact h1)
  refine ⟨⟨#[c]⟩, ?_, l3 c hc⟩
  show (if z.length ≤ sizeLine then (atI z.cps.toList i).map fun c => D.str ⟨#[c]⟩ else none) = _
  rw [if_pos ls, e]
  rfl
theorem holds_ok {xs : List Str} {x g z : Str} (hx : x ∈ xs) (hg : g ∈ SIG) (t : Tex z xs.length) : WS m__law_holds (startS 3 [.d (.tup (xs.map D.str)), .d (.tup [.str x, .str g]), .d (.str z)]) fun out => ∃ b s2, out = .rd (.bl b) s2 := by
  obtain ⟨j, e, l0, l1⟩ := tix_ok hx
  obtain ⟨c, ec, oc⟩ := at_tex t l0 l1
  have oc := sig_ok oc
  have og := sig_ok hg
  unfold m__law_holds
  array_get_dec
  refine w_opt e ?_
  array_get_dec
  refine w_opt ec ?_
  array_get_dec
  exact ⟨_, _, rfl⟩
def IsLit (xs : List Str) (d : D) : Prop := ∃ x ∈ xs, ∃ g ∈ SIG, d = .tup [.str x, .str g]
def IsRule (xs : List Str) (d : D) : Prop := (∃ l, IsLit xs l ∧ d = .tup [.str "be", l]) ∨ (∃ w ∈ LitW, ∃ x ∈ xs, ∃ y ∈ xs, ∃ g ∈ SIG, ∃ k ∈ SIG, x ≠ y ∧ d = .tup [.str w, .tup [.str x, .str g], .tup [.str y, .str k]]) ∨
  (∃ w ∈ NamW, ∃ x ∈ xs, ∃ y ∈ xs, x ≠ y ∧ d = .tup [.str w, .str x, .str y])
theorem w_holds {s : S} {ms : M (List D)} {Q : D → S → Prop} {xs : List Str} {x g z : Str} (hx : x ∈ xs) (hg : g ∈ SIG) (t : Tex z xs.length) (hm : Wp ms s fun ys s1 => ys = [.tup (xs.map D.str), .tup [.str x, .str g], .str z] ∧ s1 = s) (h : ∀ b, Q (.bl b) s) : Wp (callD 3 m__law_holds ms []) s Q := by
  refine w_callD (hm.mono fun ys s1 ⟨e1, e2⟩ => ?_)
  subst e1
  subst e2
  exact (holds_ok hx hg t).mono fun out ⟨b, s2, e⟩ => by subst e; exact h b
theorem keeps_ok {xs : List Str} {z : Str} {d : D} (r : IsRule xs d) (t : Tex z xs.length) : WS m__law_keeps (startS 5 [.d (.tup (xs.map D.str)), .d d, .d (.str z)]) fun out => ∃ b s2, out = .rd (.bl b) s2 := by
  unfold m__law_keeps
  rcases r with ⟨l, ⟨x, hx, g, hg, rfl⟩, rfl⟩ | ⟨w, hw, x, hx, y, hy, g, hg, k, hk, _, rfl⟩ | ⟨w, hw, x, hx, y, hy, _, rfl⟩
  · array_get_dec
    refine w_holds hx hg t ?_ ?_
    · array_get_dec
      exact ⟨rfl, rfl⟩
    · intro b
      exact ⟨b, _, rfl⟩
  · simp only [LitW, List.mem_cons, List.not_mem_nil, or_false] at hw
    rcases hw with rfl | rfl | rfl
    all_goals
      array_get_dec
      refine w_holds hx hg t ?_ ?_
      · array_get_dec
        exact ⟨rfl, rfl⟩
      intro b
      array_get_dec
      refine w_holds hy hk t ?_ ?_
      · array_get_dec
        exact ⟨rfl, rfl⟩
      intro c
      array_get_dec
      refine ⟨_, _, rfl, ?_⟩
      (cases b <;> cases c <;> (array_get_dec; exact ⟨_, _, rfl⟩))
  · obtain ⟨j, e, l0, l1⟩ := tix_ok hx
    obtain ⟨c, ec, oc⟩ := at_tex t l0 l1
    obtain ⟨j2, e2, l2, l3⟩ := tix_ok hy
    obtain ⟨c2, ec2, oc2⟩ := at_tex t l2 l3
    have oc := sig_ok oc
    have oc2 := sig_ok oc2
    simp only [NamW, List.mem_cons, List.not_mem_nil, or_false] at hw
    rcases hw with rfl | rfl
    all_goals
      array_get_dec
      refine w_opt e ?_
      array_get_dec
      refine w_opt ec ?_
      array_get_dec
      refine w_opt e2 ?_
      array_get_dec
      refine w_opt ec2 ?_
      array_get_dec
      exact ⟨_, _, rfl⟩
theorem at_sig {v : Int} (h0 : 0 ≤ v) (h1 : v < 2) : ∃ g ∈ SIG, atD (.str "+-") (.int v) = some (.str g) := by
  have q : v = 0 ∨ v = 1 := by omega
  rcases q with rfl | rfl
  · exact ⟨"+", by decide +kernel, rfl⟩
  · exact ⟨"-", by decide +kernel, rfl⟩
theorem nm_at {xs : List Str} {i : Int} (h0 : 0 ≤ i) (h1 : i < xs.length) : ∃ a ∈ xs, atI (xs.map D.str) i = some (.str a) ∧ xs[i.toNat]? = some a := by
  have l : i.toNat < xs.length := by omega
  refine ⟨xs[i.toNat], List.getElem_mem l, ?_, List.getElem?_eq_getElem l⟩
  unfold atI L2.ixN
  rw [if_pos h0, List.length_map, if_pos h1]
  show (xs.map D.str)[i.toNat]? = _
  rw [List.getElem?_map, List.getElem?_eq_getElem l]
  rfl
theorem nm_ne {xs : List Str} {i j : Int} {a b : Str} (nd : xs.Nodup) (hi : 0 ≤ i) (hj : 0 ≤ j) (ne : i ≠ j) (h1 : xs[i.toNat]? = some a) (h2 : xs[j.toNat]? = some b) : a ≠ b := by
  rintro rfl
  obtain ⟨l1, e1⟩ := List.getElem?_eq_some_iff.mp h1
  obtain ⟨l2, e2⟩ := List.getElem?_eq_some_iff.mp h2
  have := (List.getElem_inj nd).mp (e1.trans e2.symm)
  omega
theorem w_keeps {s : S} {ms : M (List D)} {Q : D → S → Prop} {xs : List Str} {z : Str} {d : D} (r : IsRule xs d) (t : Tex z xs.length) (hm : Wp ms s fun ys s1 => ys = [.tup (xs.map D.str), d, .str z] ∧ s1 = s) (h : ∀ b, Q (.bl b) s) : Wp (callD 5 m__law_keeps ms []) s Q := by
  refine w_callD (hm.mono fun ys s1 ⟨e1, e2⟩ => ?_)
  subst e1
  subst e2
  exact (keeps_ok r t).mono fun out ⟨b, s2, e⟩ => by subst e; exact h b
def RuleEnd (xs : List Str) (out : Out) : Prop := ∃ d s2 o', out = .rd d s2 ∧ IsRule xs d ∧ firstO s2 = some o' ∧ Bag o'
def rTail : MS := (seqM (ifS (orB (bindM (mBin (eqD false) (mVar 3) (retM (.int 1))) fun d => optM (blD d)) (bindM (callD 5 m__law_keeps (bindM (mVar 1) fun d => bindM (bindM (mVar 6) fun d => bindM (bindM (mVar 2) fun d => bindM (retM []) fun ds => retM (d :: ds)) fun ds => retM (d :: ds)) fun ds => retM (d :: ds)) []) fun d => optM (truD d))) (seqM (retMS (mVar 6)) nxM) nxM) nxM)
def rMid : MS := (seqM (asgM (ifM (bindM (mBin (inD false) (mVar 5) (bindM (bindM (bindM (retM (.str ("same" : Str))) fun d => bindM (bindM (retM (.str ("unlike" : Str))) fun d => bindM (retM []) fun ds => retM (d :: ds)) fun ds => retM (d :: ds)) fun ds => optM (lstM ds)) fun o => retM o.d)) fun d => optM (blD d)) (bindM (bindM (mVar 5) fun d => bindM (bindM (mBin atD (mVar 1) (mVar 7)) fun d => bindM (bindM (mBin atD (mVar 1) (mVar 8)) fun d => bindM (retM []) fun ds => retM (d :: ds)) fun ds => retM (d :: ds)) fun ds => retM (d :: ds)) fun ds => optM (tupM ds)) (bindM (bindM (mVar 5) fun d => bindM (bindM (mVar 9) fun d => bindM (bindM (mVar 10) fun d => bindM (retM []) fun ds => retM (d :: ds)) fun ds => retM (d :: ds)) fun ds => retM (d :: ds)) fun ds => optM (tupM ds))) (setF 6))
  (seqM (asgM (ifM (orB (bindM (mBin (eqD false) (mVar 5) (retM (.str ("be" : Str)))) fun d => optM (blD d)) (bindM (mBin (eqD false) (mVar 7) (mVar 8)) fun d => optM (blD d))) (bindM (bindM (retM (.str ("be" : Str))) fun d => bindM (bindM (mVar 9) fun d => bindM (retM []) fun ds => retM (d :: ds)) fun ds => retM (d :: ds)) fun ds => optM (tupM ds)) (mVar 6)) (setF 6))
  rTail))
/-- the state behind the draws -/
abbrev rSt (o : O) (xs : List Str) (z : Str) (off : Int) (t4 t5 t6 : Option A) (i j : Int) (x y g k : Str) : S := [some (.own o), some (.d (.tup (xs.map D.str))), some (.d (.str z)), some (.d (.int off)), t4, t5, t6, some (.d (.int i)), some (.d (.int j)), some (.d (.tup [.str x, .str g])), some (.d (.tup [.str y, .str k]))]
theorem rTail_ok {o : O} {xs : List Str} {z : Str} {off : Int} {t4 t5 : Option A} {r : D} {i j : Int} {x y g k : Str} {P : Out → Prop} (ir : IsRule xs r) (t : Tex z xs.length) (p1 : P (.nx (rSt o xs z off t4 t5 (some (.d r)) i j x y g k))) (p2 : P (.rd r (rSt o xs z off t4 t5 (some (.d r)) i j x y g k))) :
    WS rTail (rSt o xs z off t4 t5 (some (.d r)) i j x y g k) P := by
  unfold rTail
  array_get_dec
  refine iteB_by (fun _ => ?_) (fun _ => ?_)
  · array_get_dec
    exact p2
  · array_get_dec
    refine w_keeps ir t ?_ ?_
    · array_get_dec
      exact ⟨rfl, rfl⟩
    intro b
    cases b with
    | true => array_get_dec; exact p2
    | false => array_get_dec; exact p1
theorem rMid_ok {o : O} {xs : List Str} {z : Str} {off : Int} {t4 t6 : Option A} {w : D} {i j : Int} {x y g k : Str} {P : Out → Prop} (hw : w ∈ [D.str "either", .str "needs", .str "needs", .str "bars", .str "same", .str "unlike", .str "be"]) (nd : xs.Nodup) (mg : g ∈ SIG) (mk : k ∈ SIG)
    (i0 : 0 ≤ i) (i1 : i < xs.length) (j0 : 0 ≤ j) (j1 : j < xs.length) (mx : x ∈ xs) (my : y ∈ xs) (ex : atI (xs.map D.str) i = some (.str x)) (ey : atI (xs.map D.str) j = some (.str y)) (ex2 : xs[i.toNat]? = some x) (ey2 : xs[j.toNat]? = some y)
    (go : ∀ (r : D) (t5 : Option A), IsRule xs r → WS rTail (rSt o xs z off t4 t5 (some (.d r)) i j x y g k) P) : WS rMid (rSt o xs z off t4 (some (.d w)) t6 i j x y g k) P := by
  have ibe : IsRule xs (.tup [.str "be", .tup [.str x, .str g]]) := .inl ⟨_, ⟨x, mx, g, mg, rfl⟩, rfl⟩
  have irl : i ≠ j → ∀ w ∈ LitW, IsRule xs (.tup [.str w, .tup [.str x, .str g], .tup [.str y, .str k]]) := fun ne w hw => .inr (.inl ⟨w, hw, x, mx, y, my, g, mg, k, mk, nm_ne nd i0 j0 ne ex2 ey2, rfl⟩)
  have irn : i ≠ j → ∀ w ∈ NamW, IsRule xs (.tup [.str w, .str x, .str y]) := fun ne w hw => .inr (.inr ⟨w, hw, x, mx, y, my, nm_ne nd i0 j0 ne ex2 ey2, rfl⟩)
  have l1 : ("either" : Str) ∈ LitW := by decide +kernel
  have l2 : ("needs" : Str) ∈ LitW := by decide +kernel
  have l3 : ("bars" : Str) ∈ LitW := by decide +kernel
  have l4 : ("same" : Str) ∈ NamW := by decide +kernel
  have l5 : ("unlike" : Str) ∈ NamW := by decide +kernel
  unfold rMid
  simp only [List.mem_cons, List.not_mem_nil, or_false] at hw
  rcases hw with rfl | rfl | rfl | rfl | rfl | rfl | rfl
  iterate 4
    array_get_dec
    refine iteB_by (fun hij => ?_) (fun hij => ?_)
    · array_get_dec
      exact go _ _ ibe
    · have ne : i ≠ j := by rintro rfl; simp [PyData.eqv] at hij
      array_get_dec
      first | exact go _ _ (irl ne _ l1) | exact go _ _ (irl ne _ l2) | exact go _ _ (irl ne _ l3)
  iterate 2
    array_get_dec
    refine w_opt ex ?_
    array_get_dec
    refine w_opt ey ?_
    array_get_dec
    refine iteB_by (fun hij => ?_) (fun hij => ?_)
    · array_get_dec
      exact go _ _ ibe
    · have ne : i ≠ j := by rintro rfl; simp [PyData.eqv] at hij
      array_get_dec
      first | exact go _ _ (irn ne _ l4) | exact go _ _ (irn ne _ l5)
  array_get_dec
  exact go _ _ ibe
def rBody : MS := (seqM (parM 7 8 (bindM (lendD 5 m__law_draw 0 (bindM (bindM (bindM (mVar 1) fun d => bindM (retM []) fun ds => retM (d :: ds)) fun ds => optM (lenD ds)) fun d => bindM (retM []) fun ds => retM (d :: ds))) fun d => bindM (bindM (lendD 5 m__law_draw 0 (bindM (bindM (bindM (mVar 1) fun d => bindM (retM []) fun ds => retM (d :: ds)) fun ds => optM (lenD ds)) fun d => bindM (retM []) fun ds => retM (d :: ds))) fun d => bindM (retM []) fun ds => retM (d :: ds)) fun ds => retM (d :: ds)))
      (seqM (parM 9 10 (bindM (bindM (bindM (mBin atD (mVar 1) (mVar 7)) fun d => bindM (bindM (mBin atD (retM (.str ("+-" : Str))) (lendD 5 m__law_draw 0 (bindM (retM (.int 2)) fun d => bindM (retM []) fun ds => retM (d :: ds)))) fun d => bindM (retM []) fun ds => retM (d :: ds)) fun ds => retM (d :: ds)) fun ds => optM (tupM ds)) fun d => bindM (bindM (bindM (bindM (mBin atD (mVar 1) (mVar 8)) fun d => bindM (bindM (mBin atD (retM (.str ("+-" : Str))) (lendD 5 m__law_draw 0 (bindM (retM (.int 2)) fun d => bindM (retM []) fun ds => retM (d :: ds)))) fun d => bindM (retM []) fun ds => retM (d :: ds)) fun ds => retM (d :: ds)) fun ds => optM (tupM ds)) fun d => bindM (retM []) fun ds => retM (d :: ds)) fun ds => retM (d :: ds)))
      (seqM (asgM (lendD 2 m__law_one 0 (bindM (bindM (bindM (bindM (retM (.str ("either" : Str))) fun d => bindM (bindM (retM (.str ("needs" : Str))) fun d => bindM (bindM (retM (.str ("needs" : Str))) fun d => bindM (bindM (retM (.str ("bars" : Str))) fun d => bindM (bindM (retM (.str ("same" : Str))) fun d => bindM (bindM (retM (.str ("unlike" : Str))) fun d => bindM (bindM (retM (.str ("be" : Str))) fun d => bindM (retM []) fun ds => retM (d :: ds)) fun ds => retM (d :: ds)) fun ds => retM (d :: ds)) fun ds => retM (d :: ds)) fun ds => retM (d :: ds)) fun ds => retM (d :: ds)) fun ds => retM (d :: ds)) fun ds => optM (lstM ds)) fun o => retM o.d) fun d => bindM (retM []) fun ds => retM (d :: ds))) (setF 5)) rMid)))
theorem rBody_ok {o : O} {xs : List Str} {z : Str} {off : Int} {t4 t5 t6 t7 t8 t9 t10 : Option A} {P : Out → Prop} (hb : Bag o) (nd : xs.Nodup) (lx : 0 < xs.length) (t : Tex z xs.length)
    (p1 : ∀ (o : O) (t5 t6 : Option A) (i j : Int) (x y g k : Str), Bag o → P (.nx (rSt o xs z off t4 t5 t6 i j x y g k))) (p2 : ∀ (o : O) (r : D) (t5 t6 : Option A) (i j : Int) (x y g k : Str), Bag o → IsRule xs r → P (.rd r (rSt o xs z off t4 t5 t6 i j x y g k))) :
    WS rBody [some (.own o), some (.d (.tup (xs.map D.str))), some (.d (.str z)), some (.d (.int off)), t4, t5, t6, t7, t8, t9, t10] P := by
  have lt : xs.length ≤ 10 := t.2.1
  have lm : ((xs.map D.str).length : Int) = xs.length := by rw [List.length_map]
  unfold rBody
  array_get_dec
  refine w_draw rfl hb (w := (xs.map D.str).length) (by omega) (by omega) ?_ ?_
  · array_get_dec
    exact ⟨rfl, rfl⟩
  intro i o1 b1 i0 i1
  array_get_dec
  refine w_draw rfl b1 (w := (xs.map D.str).length) (by omega) (by omega) ?_ ?_
  · array_get_dec
    exact ⟨rfl, rfl⟩
  intro j o2 b2 j0 j1
  rw [lm] at i1 j1
  obtain ⟨x, mx, ex, ex2⟩ := nm_at i0 i1
  obtain ⟨y, my, ey, ey2⟩ := nm_at j0 j1
  array_get_dec
  refine ⟨_, _, rfl, ?_⟩
  array_get_dec
  refine w_opt ex ?_
  array_get_dec
  refine w_draw rfl b2 (w := 2) (by decide) (by decide) ?_ ?_
  · array_get_dec
    exact ⟨rfl, rfl⟩
  intro v o3 b3 v0 v1
  obtain ⟨g, mg, eg⟩ := at_sig v0 v1
  refine w_opt eg ?_
  array_get_dec
  refine w_opt ey ?_
  array_get_dec
  refine w_draw rfl b3 (w := 2) (by decide) (by decide) ?_ ?_
  · array_get_dec
    exact ⟨rfl, rfl⟩
  intro v2 o4 b4 u0 u1
  obtain ⟨g2, mg2, eg2⟩ := at_sig u0 u1
  refine w_opt eg2 ?_
  array_get_dec
  refine ⟨_, _, rfl, ?_⟩
  array_get_dec
  refine w_one (xs := [.str "either", .str "needs", .str "needs", .str "bars", .str "same", .str "unlike", .str "be"]) rfl b4 (by simp) (by decide) ?_ ?_
  · array_get_dec
    exact ⟨rfl, rfl⟩
  intro w o5 b5 hw
  refine thenO_nx ?_
  show WS rMid (rSt o5 xs z off t4 (some (.d w)) t6 i j x y g g2) P
  exact rMid_ok hw nd mg mg2 i0 i1 j0 j1 mx my ex ey ex2 ey2 fun r t5 ir => rTail_ok ir t (p1 _ _ _ _ _ _ _ _ _ b5) (p2 _ _ _ _ _ _ _ _ _ _ b5 ir)
theorem rule_ok {o : O} {xs : List Str} {z : Str} {off : Int} (hb : Bag o) (lx : 0 < xs.length) (nd : xs.Nodup) (t : Tex z xs.length) : WS m__law_rule (startS 11 [.own o, .d (.tup (xs.map D.str)), .d (.str z), .d (.int off)]) (RuleEnd xs) := by
  unfold m__law_rule
  refine v_seq (v_forR ?_)
  array_get_dec
  refine ⟨_, rfl, ?_⟩
  refine loop_ok (inv := fun ds s => ∃ (o : O) (t4 t5 t6 t7 t8 t9 t10 : Option A), Bag o ∧ s = [some (.own o), some (.d (.tup (xs.map D.str))), some (.d (.str z)), some (.d (.int off)), t4, t5, t6, t7, t8, t9, t10]) ?_ ?_ _ _ ⟨o, none, none, none, none, none, none, none, hb, rfl⟩
  · rintro d ds s ⟨o, t4, t5, t6, t7, t8, t9, t10, hb, rfl⟩
    refine ⟨[some (.own o), some (.d (.tup (xs.map D.str))), some (.d (.str z)), some (.d (.int off)), some (.d d), t5, t6, t7, t8, t9, t10], rfl, ?_⟩
    show WS rBody _ _
    refine rBody_ok hb nd lx t ?_ ?_
    · intro o t5 t6 i j x y g k b
      exact ⟨o, _, _, _, _, _, _, _, b, rfl⟩
    · intro o r t5 t6 i j x y g k b ir
      exact ⟨r, _, o, rfl, ir, rfl, b⟩
  · rintro s ⟨o, t4, t5, t6, t7, t8, t9, t10, hb, rfl⟩
    obtain ⟨x, mx, ex, ex2⟩ := nm_at (xs := xs) (i := 0) (by decide) (by omega)
    obtain ⟨c, ec, oc⟩ := at_tex t (i := 0) (by decide) (by omega)
    array_get_dec
    refine w_opt ex ?_
    array_get_dec
    refine w_opt ec ?_
    array_get_dec
    exact ⟨_, _, _, rfl, .inl ⟨_, ⟨x, mx, c, oc, rfl⟩, rfl⟩, rfl, hb⟩
end Fli
set_option Elab.async false
set_option linter.all false
set_option maxRecDepth 100000
set_option maxHeartbeats 1000000
namespace Fli
open PySem L2
local macro_rules | `(tactic| array_get_dec) => `(tactic| (repeat (first | ((with_reducible change WS _ _ _); first | with_reducible refine v_seq ?_ | with_reducible refine v_nx ?_ | with_reducible refine v_ret ?_ | with_reducible refine v_retO ?_ | with_reducible refine v_if ?_ | with_reducible refine v_asg ?_ | with_reducible refine v_asgO ?_ | with_reducible refine v_asgF ?_ | with_reducible refine v_drop ?_ | with_reducible refine v_par ?_ | with_reducible refine v_par3 ?_ | with_reducible refine v_put ?_) | ((with_reducible change Wp (optM _) _ _); first | ((with_reducible show Wp (optM (blD _)) _ _); refine w_opt rfl ?_) | ((with_reducible show Wp (optM (truD _)) _ _); refine w_opt rfl ?_) | ((with_reducible refine w_eqS ?_ ?_ ?_); (first | assumption | decide +kernel); (first | assumption | decide +kernel)) | ((with_reducible refine w_tupM ?_ ?_); exact of_decide_eq_true rfl) | ((with_reducible refine w_lstM ?_ ?_); exact of_decide_eq_true rfl) | with_reducible refine w_tupM ?_ ?_ | with_reducible refine w_lstM ?_ ?_ | ((with_reducible refine w_mul ?_ ?_); first | exact Or.inl ⟨of_decide_eq_true rfl, of_decide_eq_true rfl⟩ | exact Or.inr ⟨of_decide_eq_true rfl, of_decide_eq_true rfl⟩) | ((with_reducible refine w_mod ?_ ?_); exact of_decide_eq_true rfl) | ((with_reducible refine w_div ?_ ?_); exact ⟨of_decide_eq_true rfl, of_decide_eq_true rfl⟩) | ((with_reducible refine w_pow ?_ ?_); exact ⟨of_decide_eq_true rfl, of_decide_eq_true rfl, of_decide_eq_true rfl⟩) | with_reducible refine w_mul ?_ ?_ | with_reducible refine w_div ?_ ?_ | with_reducible refine w_mod ?_ ?_ | with_reducible refine w_pow ?_ ?_ | ((with_reducible show Wp (optM _) _ _); refine w_opt rfl ?_)) | ((with_reducible change Wp _ _ _); first | with_reducible refine w_bind ?_ | with_reducible refine w_bin ?_ | with_reducible refine w_binO ?_ | with_reducible refine w_ret ?_ | with_reducible refine w_ifM ?_ | with_reducible refine w_andB ?_ | with_reducible refine w_orB ?_ | with_reducible refine w_andV ?_ | with_reducible refine w_orV ?_ | with_reducible refine w_slM ?_ | with_reducible refine w_chM ?_ | ((with_reducible show Wp (mVar _) _ _); refine w_var rfl ?_) | ((with_reducible show Wp (ixN _ _) _ _); first | refine w_ixO rfl rfl ?_ | refine w_ixD rfl rfl ?_) | ((with_reducible show Wp (lenN _) _ _); refine w_lenO rfl ?_) | ((with_reducible show Wp (frzN _) _ _); first | refine w_frzO rfl ?_ | refine w_frzD rfl ?_)) | ((with_reducible change thenO _ _ _); first | with_reducible refine thenO_nx ?_ | with_reducible refine thenO_rd ?_ | with_reducible refine thenO_ro ?_) | ((with_reducible change iteB _ _ _); first | with_reducible refine iteB_t ?_ | with_reducible refine iteB_f ?_ | ((with_reducible refine iteB_tt ?_ ?_); decide +kernel) | ((with_reducible refine iteB_ff ?_ ?_); decide +kernel) | ((with_reducible refine iteB_tt ?_ ?_); assumption) | ((with_reducible refine iteB_ff ?_ ?_); assumption) | ((with_reducible show iteB _ _ _); first | refine iteB_tt rfl ?_ | refine iteB_ff rfl ?_)) | ((with_reducible show ∃ k, truD _ = some k ∧ iteB k _ _); refine ⟨_, rfl, ?_⟩) | ((with_reducible show ∃ k, cmpD _ _ _ = some (D.bl k) ∧ iteB k _ _); refine ⟨_, rfl, ?_⟩) | ((with_reducible show iteB _ _ _); first | refine iteB_tt rfl ?_ | refine iteB_ff rfl ?_) | ((with_reducible show Wp (mVar _) _ _); refine w_var rfl ?_) | ((with_reducible show Wp (ixN _ _) _ _); first | refine w_ixO rfl rfl ?_ | refine w_ixD rfl rfl ?_) | ((with_reducible show Wp (lenN _) _ _); refine w_lenO rfl ?_) | ((with_reducible show Wp (frzN _) _ _); first | refine w_frzO rfl ?_ | refine w_frzD rfl ?_) | ((with_reducible show Wp (optM _) _ _); refine w_opt rfl ?_))))
theorem sig_len {g : Str} (h : g ∈ SIG) : g.cps.toList.length = 1 ∧ ∀ c ∈ g.cps.toList, (⟨#[c]⟩ : Str) ∈ SIG := by
  simp only [SIG, List.mem_cons, List.not_mem_nil, or_false] at h
  rcases h with rfl | rfl
  · exact ⟨by decide +kernel, fun c hc => by
      have e : ("+" : Str).cps.toList = [43] := by decide +kernel
      rw [e] at hc
      simp only [List.mem_singleton] at hc
      subst hc
      decide +kernel⟩
  · exact ⟨by decide +kernel, fun c hc => by
      have e : ("-" : Str).cps.toList = [45] := by decide +kernel
      rw [e] at hc
      simp only [List.mem_singleton] at hc
      subst hc
      decide +kernel⟩
theorem joinL_sig : ∀ {ls : List (List Nat)}, (∀ l ∈ ls, l.length = 1 ∧ ∀ c ∈ l, (⟨#[c]⟩ : Str) ∈ SIG) → (TL.joinL [] ls).length = ls.length ∧ ∀ c ∈ TL.joinL [] ls, (⟨#[c]⟩ : Str) ∈ SIG
  | [], _ => ⟨rfl, fun c h => nomatch h⟩
  | [p], h => h p (by simp)
  | p :: q :: r, h => by
    obtain ⟨h1, h2⟩ := h p (by simp)
    obtain ⟨h3, h4⟩ := joinL_sig (ls := q :: r) fun l hl => h l (List.mem_cons_of_mem _ hl)
    show (p ++ ([] ++ TL.joinL [] (q :: r))).length = _ ∧ ∀ c ∈ p ++ ([] ++ TL.joinL [] (q :: r)), _
    refine ⟨by rw [List.length_append, List.nil_append, h1, h3]; simp only [List.length_cons]; omega, fun c hc => ?_⟩
    rw [List.nil_append] at hc
    rcases List.mem_append.mp hc with hc | hc
    · exact h2 c hc
    · exact h4 c hc
theorem tex_join {ys : List Str} (h : ∀ y ∈ ys, y ∈ SIG) (l : ys.length ≤ 10) : Tex (Txt.join "" ys) ys.length := by
  have e1 : (Txt.join "" ys).cps.toList = TL.joinL [] (ys.map fun y => y.cps.toList) := (congrArg TL.tl (TL.join_eq "" ys)).trans (TL.tl_join "" ys)
  obtain ⟨h1, h2⟩ := joinL_sig (ls := ys.map fun y => y.cps.toList) fun l hl => by
    obtain ⟨y, hy, rfl⟩ := List.mem_map.mp hl
    exact sig_len (h y hy)
  rw [List.length_map] at h1
  refine ⟨by show (Txt.join "" ys).cps.toList.length = _; rw [e1]; exact h1, l, fun c hc => h2 c ?_⟩
  rw [e1] at hc
  exact hc
theorem sum_sig : ∀ {ys : List Str}, (∀ y ∈ ys, y ∈ SIG) → (ys.map (·.length)).sum = ys.length
  | [], _ => rfl
  | y :: ys, h => by
    rw [List.map_cons, List.sum_cons, sum_sig fun z hz => h z (List.mem_cons_of_mem _ hz), List.length_cons]
    have : y.length = 1 := (sig_len (h y (by simp))).1
    omega
theorem w_rule {s : S} {o : O} {xs : List Str} {z : Str} {off : Int} {ms : M (List D)} {Q : D → S → Prop} (e0 : slotO 0 s = some o) (hb : Bag o) (lx : 0 < xs.length) (nd : xs.Nodup) (t : Tex z xs.length) (hm : Wp ms s fun ys s1 => ys = [.tup (xs.map D.str), .str z, .int off] ∧ s1 = s)
    (h : ∀ d o', Bag o' → IsRule xs d → Q d (s.set 0 (some (.own o')))) : Wp (lendD 11 m__law_rule 0 ms) s Q := by
  refine w_lendD e0 (hm.mono fun ys s1 ⟨e1, e2⟩ => ?_)
  subst e1
  subst e2
  refine ⟨o, e0, (rule_ok hb lx nd t).mono fun out ⟨d, s2, o', e, ir, e3, b⟩ => ?_⟩
  subst e
  exact ⟨o', e3, h d o' b ir⟩
def Parts (w m : Nat) (o : O) : Prop := ∃ (xs : List Str) (ds : List D) (z : Str), o = .lst [.tup (xs.map D.str), .tup ds, .str z] ∧ 0 < xs.length ∧ xs.length ≤ w ∧ xs.Nodup ∧ (∀ x ∈ xs, x ∈ pool) ∧ ds.length ≤ m + 1 ∧ (∀ d ∈ ds, IsRule xs d) ∧ Tex z xs.length
theorem panel_ok {o : O} {w m : Nat} (hw0 : 0 < w) (hw : w ≤ 10) (hm : m ≤ 200) (hb : Bag o) : WS m__law_panel (startS 8 [.own o, .d (.int w), .d (.int m)]) fun out => ∃ q s2 o', out = .ro q s2 ∧ Parts w m q ∧ firstO s2 = some o' ∧ Bag o' := by
  unfold m__law_panel
  array_get_dec
  refine w_lendD (n := 4) rfl ?_
  array_get_dec
  refine w_draw rfl hb (w := (w : Int)) (by omega) (by omega) ?_ ?_
  · array_get_dec
    exact ⟨rfl, rfl⟩
  intro v o1 b1 v0 v1
  array_get_dec
  refine ⟨o1, rfl, (names_ok (n := 1 + v) b1 (by omega) (by omega)).mono ?_⟩
  rintro out ⟨xs, s2, o2, rfl, e2, b2, lx, nd, hp⟩
  refine ⟨o2, e2, ?_⟩
  array_get_dec
  refine w_cplL ?_
  array_get_dec
  refine ⟨xs.map D.str, rfl, ?_⟩
  refine w_comp (inv := fun ds acc s => ∃ (ys : List Str) (o : O), acc = ys.map D.str ∧ ys.length + ds.length = xs.length ∧ (∀ y ∈ ys, y ∈ SIG) ∧ Bag o ∧ s = [some (.own o), some (.d (.int w)), some (.d (.int m)), some (.d (.tup (xs.map D.str))), none, none, none, none]) rfl ⟨[], o2, rfl, by simp, by simp, b2, rfl⟩ ?_ ?_
  · rintro d ds acc s ⟨ys, o, rfl, hl, hy, hb, rfl⟩
    refine ⟨_, rfl, ?_⟩
    array_get_dec
    refine w_draw rfl hb (w := 2) (by decide) (by decide) ?_ ?_
    · array_get_dec
      exact ⟨rfl, rfl⟩
    intro v o' b' v0 v1
    obtain ⟨g, mg, eg⟩ := at_sig v0 v1
    refine w_opt eg ?_
    simp only [List.length_cons] at hl
    refine ⟨by rw [List.length_map]; exact Nat.lt_of_le_of_lt (by omega : ys.length ≤ 10) (by decide), ys ++ [g], o', by simp, by simp; omega, ?_, b', rfl⟩
    intro y h
    rcases List.mem_append.mp h with h | h
    · exact hy y h
    · simp only [List.mem_singleton] at h
      subst h
      exact mg
  rintro acc s2 ⟨ys, o3, rfl, hl, hy, b3, rfl⟩
  simp only [List.length_nil, Nat.add_zero] at hl
  have t : Tex (Txt.join "" ys) xs.length := by
    rw [← hl]
    exact tex_join hy (by omega)
  array_get_dec
  refine w_opt (a := .str (Txt.join "" ys)) ?_ ?_
  · show (strsD (ys.map D.str)).bind _ = _
    rw [strs_map]
    show (if _ then _ else _) = _
    rw [if_pos (by rw [sum_sig hy]; have e0 : ("" : Str).length = 0 := rfl; rw [e0]; omega)]
  array_get_dec
  refine w_cplR ?_
  array_get_dec
  refine w_draw rfl b3 (w := (m : Int) + 1) (by omega) (by omega) ?_ ?_
  · array_get_dec
    exact ⟨rfl, rfl⟩
  intro mm o4 b4 m0 m1
  array_get_dec
  refine ⟨rngD 0 mm.toNat, ?_, ?_⟩
  · show (if okR mm = true then _ else none) = _
    rw [if_pos (by unfold okR; exact decide_eq_true ⟨by omega, by omega⟩)]
  refine w_comp (inv := fun ds acc s => ∃ (o : O), acc.length + ds.length = mm.toNat ∧ (∀ d ∈ acc, IsRule xs d) ∧ Bag o ∧ s = [some (.own o), some (.d (.int w)), some (.d (.int m)), some (.d (.tup (xs.map D.str))), some (.d (.str (Txt.join "" ys))), none, none, none]) rfl ⟨o4, by simp [rngD], by simp, b4, rfl⟩ ?_ ?_
  · rintro d ds acc s ⟨o, hl, hr, hb, rfl⟩
    simp only [List.length_cons] at hl
    refine ⟨_, rfl, ?_⟩
    array_get_dec
    refine w_rule rfl hb (by omega) nd t (off := 0) ?_ ?_
    · array_get_dec
      exact ⟨rfl, rfl⟩
    intro r o' b' ir
    refine ⟨Nat.lt_of_le_of_lt (by omega : acc.length ≤ 300) (by decide), o', by simp; omega, ?_, b', rfl⟩
    intro y h
    rcases List.mem_append.mp h with h | h
    · exact hr y h
    · simp only [List.mem_singleton] at h
      subst h
      exact ir
  rintro ds s3 ⟨o5, hl, hr, b5, rfl⟩
  simp only [List.length_nil, Nat.add_zero] at hl
  array_get_dec
  refine w_draw rfl b5 (w := 8) (by decide) (by decide) ?_ ?_
  · array_get_dec
    exact ⟨rfl, rfl⟩
  intro u o6 b6 _ _
  array_get_dec
  refine iteB_by (fun _ => ?_) (fun _ => ?_)
  · refine v_seq (v_app (ds := ds) ?_ rfl)
    refine w_rule rfl b6 (by omega) nd t (off := 1) ?_ ?_
    · array_get_dec
      exact ⟨rfl, rfl⟩
    intro r o7 b7 ir
    refine ⟨ds, rfl, Nat.lt_of_le_of_lt (by omega : ds.length ≤ 300) (by decide), ?_⟩
    array_get_dec
    refine ⟨_, _, _, rfl, ⟨xs, ds ++ [r], _, rfl, by omega, by omega, nd, hp, by simp; omega, ?_, t⟩, rfl, b7⟩
    intro y h
    rcases List.mem_append.mp h with h | h
    · exact hr y h
    · simp only [List.mem_singleton] at h
      subst h
      exact ir
  · array_get_dec
    exact ⟨_, _, _, rfl, ⟨xs, ds, _, rfl, by omega, by omega, nd, hp, by omega, hr, t⟩, rfl, b6⟩
end Fli
set_option Elab.async false
set_option linter.all false
set_option maxRecDepth 100000
set_option maxHeartbeats 1000000
namespace Fli
open PySem L2
local macro_rules | `(tactic| array_get_dec) => `(tactic| (repeat (first | ((with_reducible change WS _ _ _); first | with_reducible refine v_seq ?_ | with_reducible refine v_nx ?_ | with_reducible refine v_ret ?_ | with_reducible refine v_retO ?_ | with_reducible refine v_if ?_ | with_reducible refine v_asg ?_ | with_reducible refine v_asgO ?_ | with_reducible refine v_asgF ?_ | with_reducible refine v_drop ?_ | with_reducible refine v_par ?_ | with_reducible refine v_par3 ?_ | with_reducible refine v_put ?_) | ((with_reducible change Wp (optM _) _ _); first | ((with_reducible show Wp (optM (blD _)) _ _); refine w_opt rfl ?_) | ((with_reducible show Wp (optM (truD _)) _ _); refine w_opt rfl ?_) | ((with_reducible refine w_eqS ?_ ?_ ?_); (first | assumption | decide +kernel); (first | assumption | decide +kernel)) | ((with_reducible refine w_tupM ?_ ?_); exact of_decide_eq_true rfl) | ((with_reducible refine w_lstM ?_ ?_); exact of_decide_eq_true rfl) | with_reducible refine w_tupM ?_ ?_ | with_reducible refine w_lstM ?_ ?_ | ((with_reducible refine w_mul ?_ ?_); first | exact Or.inl ⟨of_decide_eq_true rfl, of_decide_eq_true rfl⟩ | exact Or.inr ⟨of_decide_eq_true rfl, of_decide_eq_true rfl⟩) | ((with_reducible refine w_mod ?_ ?_); exact of_decide_eq_true rfl) | ((with_reducible refine w_div ?_ ?_); exact ⟨of_decide_eq_true rfl, of_decide_eq_true rfl⟩) | ((with_reducible refine w_pow ?_ ?_); exact ⟨of_decide_eq_true rfl, of_decide_eq_true rfl, of_decide_eq_true rfl⟩) | with_reducible refine w_mul ?_ ?_ | with_reducible refine w_div ?_ ?_ | with_reducible refine w_mod ?_ ?_ | with_reducible refine w_pow ?_ ?_ | ((with_reducible show Wp (optM _) _ _); refine w_opt rfl ?_)) | ((with_reducible change Wp _ _ _); first | with_reducible refine w_bind ?_ | with_reducible refine w_bin ?_ | with_reducible refine w_binO ?_ | with_reducible refine w_ret ?_ | with_reducible refine w_ifM ?_ | with_reducible refine w_andB ?_ | with_reducible refine w_orB ?_ | with_reducible refine w_andV ?_ | with_reducible refine w_orV ?_ | with_reducible refine w_slM ?_ | with_reducible refine w_chM ?_ | ((with_reducible show Wp (mVar _) _ _); refine w_var rfl ?_) | ((with_reducible show Wp (ixN _ _) _ _); first | refine w_ixO rfl rfl ?_ | refine w_ixD rfl rfl ?_) | ((with_reducible show Wp (lenN _) _ _); refine w_lenO rfl ?_) | ((with_reducible show Wp (frzN _) _ _); first | refine w_frzO rfl ?_ | refine w_frzD rfl ?_)) | ((with_reducible change thenO _ _ _); first | with_reducible refine thenO_nx ?_ | with_reducible refine thenO_rd ?_ | with_reducible refine thenO_ro ?_) | ((with_reducible change iteB _ _ _); first | with_reducible refine iteB_t ?_ | with_reducible refine iteB_f ?_ | ((with_reducible refine iteB_tt ?_ ?_); decide +kernel) | ((with_reducible refine iteB_ff ?_ ?_); decide +kernel) | ((with_reducible refine iteB_tt ?_ ?_); assumption) | ((with_reducible refine iteB_ff ?_ ?_); assumption) | ((with_reducible show iteB _ _ _); first | refine iteB_tt rfl ?_ | refine iteB_ff rfl ?_)) | ((with_reducible show ∃ k, truD _ = some k ∧ iteB k _ _); refine ⟨_, rfl, ?_⟩) | ((with_reducible show ∃ k, cmpD _ _ _ = some (D.bl k) ∧ iteB k _ _); refine ⟨_, rfl, ?_⟩) | ((with_reducible show iteB _ _ _); first | refine iteB_tt rfl ?_ | refine iteB_ff rfl ?_) | ((with_reducible show Wp (mVar _) _ _); refine w_var rfl ?_) | ((with_reducible show Wp (ixN _ _) _ _); first | refine w_ixO rfl rfl ?_ | refine w_ixD rfl rfl ?_) | ((with_reducible show Wp (lenN _) _ _); refine w_lenO rfl ?_) | ((with_reducible show Wp (frzN _) _ _); first | refine w_frzO rfl ?_ | refine w_frzD rfl ?_) | ((with_reducible show Wp (optM _) _ _); refine w_opt rfl ?_))))
def letters : Str := "abcdefghijklmnopqrstuvwxyz"
def words : List V := [.str "be", .str "either", .str "needs", .str "bars", .str "same", .str "unlike"]
structure Nm (x : Str) : Prop where
  w : inV (.str x) words = false
  lo : 1 ≤ x.length
  hi : x.length ≤ 8
  ls : ∀ c ∈ x.cps.toList, c ∈ letters.cps.toList
  ok : PyData.strOk x = true
instance (x : Str) : Decidable (Nm x) := decidable_of_iff (inV (.str x) words = false ∧ 1 ≤ x.length ∧ x.length ≤ 8 ∧ (∀ c ∈ x.cps.toList, c ∈ letters.cps.toList) ∧ PyData.strOk x = true) ⟨fun ⟨a, b, c, d, e⟩ => ⟨a, b, c, d, e⟩, fun ⟨a, b, c, d, e⟩ => ⟨a, b, c, d, e⟩⟩
theorem nm_pool : ∀ x ∈ pool, Nm x := by decide +kernel
theorem bls_true : ∀ {ds : List D}, (∀ d ∈ ds, d = .bl true) → ∃ bs, blsD ds = some bs ∧ bs.all id = true
  | [], _ => ⟨[], rfl, rfl⟩
  | d :: ds, h => by
    obtain ⟨bs, e, a⟩ := bls_true (ds := ds) fun y hy => h y (List.mem_cons_of_mem _ hy)
    obtain rfl := h d (by simp)
    exact ⟨true :: bs, by show (blsD ds).map _ = _; rw [e]; rfl, by simpa using a⟩
theorem inV_map {xs : List Str} {x : Str} : inV (.str x) (xs.map V.str) = decide (x ∈ xs) := by
  induction xs with
  | nil => rfl
  | cons y ys ih =>
    show (eqV (V.str y) (.str x) || inV (.str x) (ys.map V.str)) = _
    rw [ih]
    have e : eqV (V.str y) (.str x) = decide (y = x) := by
      show (y == x) = decide (y = x)
      rw [Bool.eq_iff_iff]
      simp
    rw [e]
    by_cases h : y = x
    · subst h; simp
    · have h2 : ¬ x = y := fun z => h z.symm
      simp [h, h2]
theorem cut_to {α : Type} {xs : List α} {k : Nat} (h : k ≤ xs.length) : cutD xs none (some (k : Int)) = xs.take k := by
  unfold cutD
  rw [HT.sIx_nat, HT.sIx_none, List.drop_zero, Nat.sub_zero, Nat.min_eq_left h]
end Fli
set_option Elab.async false
set_option linter.all false
set_option maxRecDepth 100000
set_option maxHeartbeats 1000000
namespace Fli
open PySem L2
/-! equality of texts, tuples and lists of them -/
def tx : Nat → D → Bool
  | _, .str x => PyData.strOk x
  | n + 1, .tup ds => ds.all (tx n)
  | n + 1, .lst ds => ds.all (tx n)
  | _, _ => false
theorem txs_py {n : Nat} (ih : ∀ d, tx n d = true → ∃ p, toPy d = some p ∧ p.canLay0 = true ∧ p.depth ≤ n ∧ p.showable = true) : ∀ ds : List D, ds.all (tx n) = true → ∃ ps, toPys ds = some ps ∧ PyData.canLayAll0 ps = true ∧ PyData.depthAll ps ≤ n ∧ PyData.showableAll ps = true
  | [], _ => ⟨[], rfl, by simp only [PyData.canLayAll0], by simp only [PyData.depthAll]; omega, by simp only [PyData.showableAll]⟩
  | d :: ds, h => by
    simp only [List.all_cons, Bool.and_eq_true] at h
    obtain ⟨p, e, c, l, w⟩ := ih d h.1
    obtain ⟨ps, e2, c2, l2, w2⟩ := txs_py ih ds h.2
    refine ⟨p :: ps, ?_, ?_, ?_, ?_⟩
    · unfold toPys
      rw [e, e2]
      rfl
    · simp only [PyData.canLayAll0, c, c2, Bool.and_self]
    · simp only [PyData.depthAll]
      omega
    · simp only [PyData.showableAll, w, w2, Bool.and_self]
theorem tx_py : ∀ (n : Nat) (d : D), tx n d = true → ∃ p, toPy d = some p ∧ p.canLay0 = true ∧ p.depth ≤ n ∧ p.showable = true
  | n, .str x, h => by
    have h : PyData.strOk x = true := by (cases n <;> exact h)
    exact ⟨.str x, by unfold toPy; rfl, by simp only [PyData.canLay0, h], by simp only [PyData.depth]; omega, by simp only [PyData.showable]⟩
  | n + 1, .tup ds, h => by
    obtain ⟨ps, e, c, l, w⟩ := txs_py (tx_py n) ds h
    exact ⟨.tuple ps, by unfold toPy; rw [e]; rfl, by simp only [PyData.canLay0, c], by simp only [PyData.depth]; omega, by simp only [PyData.showable, w]⟩
  | n + 1, .lst ds, h => by
    obtain ⟨ps, e, c, l, w⟩ := txs_py (tx_py n) ds h
    exact ⟨.list ps, by unfold toPy; rw [e]; rfl, by simp only [PyData.canLay0, c], by simp only [PyData.depth]; omega, by simp only [PyData.showable, w]⟩
  | 0, .tup _, h => by cases h
  | 0, .lst _, h => by cases h
  | 0, .non, h => by cases h
  | 0, .bl _, h => by cases h
  | 0, .int _, h => by cases h
  | 0, .scr _, h => by cases h
  | 0, .ins _ _, h => by cases h
  | 0, .cls _, h => by cases h
  | 0, .dic _, h => by cases h
  | 0, .dit _, h => by cases h
  | 0, .ptr _, h => by cases h
  | 0, .exc _ _ _, h => by cases h
  | n + 1, .non, h => by cases h
  | n + 1, .bl _, h => by cases h
  | n + 1, .int _, h => by cases h
  | n + 1, .scr _, h => by cases h
  | n + 1, .ins _ _, h => by cases h
  | n + 1, .cls _, h => by cases h
  | n + 1, .dic _, h => by cases h
  | n + 1, .dit _, h => by cases h
  | n + 1, .ptr _, h => by cases h
  | n + 1, .exc _ _ _, h => by cases h
theorem txs_eq {n : Nat} (ih : ∀ x y p q, tx n x = true → tx n y = true → toPy x = some p → toPy y = some q → (PyData.eqv p q = true ↔ x = y)) : ∀ (xs ys : List D) (ps qs : List PyData), xs.all (tx n) = true → ys.all (tx n) = true → toPys xs = some ps → toPys ys = some qs → (PyData.eqvAll ps qs = true ↔ xs = ys)
  | [], [], ps, qs, _, _, e1, e2 => by
    unfold toPys at e1 e2
    cases e1
    cases e2
    simp [PyData.eqvAll]
  | [], y :: ys, ps, qs, _, h2, e1, e2 => by
    simp only [List.all_cons, Bool.and_eq_true] at h2
    obtain ⟨p, e, _⟩ := tx_py n y h2.1
    obtain ⟨rs, e3, _⟩ := txs_py (tx_py n) ys h2.2
    unfold toPys at e1 e2
    rw [e, e3] at e2
    cases e1
    cases e2
    simp [PyData.eqvAll]
  | x :: xs, [], ps, qs, h1, _, e1, e2 => by
    simp only [List.all_cons, Bool.and_eq_true] at h1
    obtain ⟨p, e, _⟩ := tx_py n x h1.1
    obtain ⟨rs, e3, _⟩ := txs_py (tx_py n) xs h1.2
    unfold toPys at e1 e2
    rw [e, e3] at e1
    cases e1
    cases e2
    simp [PyData.eqvAll]
  | x :: xs, y :: ys, ps, qs, h1, h2, e1, e2 => by
    simp only [List.all_cons, Bool.and_eq_true] at h1 h2
    obtain ⟨p, ep, _⟩ := tx_py n x h1.1
    obtain ⟨rs, er, _⟩ := txs_py (tx_py n) xs h1.2
    obtain ⟨q, eq, _⟩ := tx_py n y h2.1
    obtain ⟨us, eu, _⟩ := txs_py (tx_py n) ys h2.2
    have i1 := ih x y p q h1.1 h2.1 ep eq
    have i2 := txs_eq ih xs ys rs us h1.2 h2.2 er eu
    unfold toPys at e1 e2
    rw [ep, er] at e1
    rw [eq, eu] at e2
    cases e1
    cases e2
    simp only [PyData.eqvAll, Bool.and_eq_true, i1, i2, List.cons.injEq]
theorem tx_cases {n : Nat} {d : D} (h : tx n d = true) : (∃ x, d = .str x) ∨ (∃ m ds, n = m + 1 ∧ (d = .tup ds ∨ d = .lst ds) ∧ ds.all (tx m) = true) := by
  cases d with
  | str x => exact .inl ⟨x, rfl⟩
  | tup ds => cases n with
    | zero => cases h
    | succ m => exact .inr ⟨m, ds, rfl, .inl rfl, h⟩
  | lst ds => cases n with
    | zero => cases h
    | succ m => exact .inr ⟨m, ds, rfl, .inr rfl, h⟩
  | _ => cases n <;> cases h
theorem tx_eq : ∀ (n : Nat) (x y : D) (p q : PyData), tx n x = true → tx n y = true → toPy x = some p → toPy y = some q → (PyData.eqv p q = true ↔ x = y) := by
  intro n
  induction n with
  | zero =>
    intro x y p q h1 h2 e1 e2
    rcases tx_cases h1 with ⟨a, rfl⟩ | ⟨m, _, z, _⟩
    · rcases tx_cases h2 with ⟨b, rfl⟩ | ⟨m, _, z, _⟩
      · unfold toPy at e1 e2
        cases e1
        cases e2
        simp [PyData.eqv]
      · cases z
    · cases z
  | succ n ih =>
    intro x y p q h1 h2 e1 e2
    rcases tx_cases h1 with ⟨a, rfl⟩ | ⟨m, ds, z, k1, g1⟩
    · rcases tx_cases h2 with ⟨b, rfl⟩ | ⟨m, es, z, k2, g2⟩
      · unfold toPy at e1 e2
        cases e1
        cases e2
        simp [PyData.eqv]
      · cases z
        obtain ⟨rs, er, _⟩ := txs_py (tx_py n) es g2
        rcases k2 with rfl | rfl <;> (unfold toPy at e1 e2; rw [er] at e2; cases e1; cases e2; simp [PyData.eqv])
    · cases z
      obtain ⟨us, eu, _⟩ := txs_py (tx_py n) ds g1
      rcases tx_cases h2 with ⟨b, rfl⟩ | ⟨m, es, z, k2, g2⟩
      · rcases k1 with rfl | rfl <;> (unfold toPy at e1 e2; rw [eu] at e1; cases e1; cases e2; simp [PyData.eqv])
      · cases z
        obtain ⟨rs, er, _⟩ := txs_py (tx_py n) es g2
        have i := txs_eq ih ds es us rs g1 g2 eu er
        rcases k1 with rfl | rfl <;> rcases k2 with rfl | rfl <;> (unfold toPy at e1 e2; rw [eu] at e1; rw [er] at e2; cases e1; cases e2; simp [PyData.eqv, i])
theorem eqD_tx {neg : Bool} {n : Nat} {x y : D} (hn : n ≤ 64) (h1 : tx n x = true) (h2 : tx n y = true) : ∃ b, eqD neg x y = some (.bl (neg ^^ b)) ∧ (b = true ↔ x = y) := by
  obtain ⟨p, ep, c1, l1, _⟩ := tx_py n x h1
  obtain ⟨q, eq, c2, l2, _⟩ := tx_py n y h2
  refine ⟨PyData.eqv p q, ?_, tx_eq n x y p q h1 h2 ep eq⟩
  unfold eqD
  rw [ep, eq]
  show (if SeqAt.shaped p = true ∧ SeqAt.shaped q = true then _ else none) = _
  rw [if_pos ⟨by unfold SeqAt.shaped; rw [c1, decide_eq_true (by omega : p.depth ≤ 64)]; rfl, by unfold SeqAt.shaped; rw [c2, decide_eq_true (by omega : q.depth ≤ 64)]; rfl⟩]
end Fli
set_option Elab.async false
set_option linter.all false
set_option maxRecDepth 100000
set_option maxHeartbeats 1000000
namespace Fli
open PySem L2
local macro_rules | `(tactic| array_get_dec) => `(tactic| (repeat (first | ((with_reducible change WS _ _ _); first | with_reducible refine v_seq ?_ | with_reducible refine v_nx ?_ | with_reducible refine v_ret ?_ | with_reducible refine v_retO ?_ | with_reducible refine v_if ?_ | with_reducible refine v_asg ?_ | with_reducible refine v_asgO ?_ | with_reducible refine v_asgF ?_ | with_reducible refine v_drop ?_ | with_reducible refine v_par ?_ | with_reducible refine v_par3 ?_ | with_reducible refine v_put ?_) | ((with_reducible change Wp (optM _) _ _); first | ((with_reducible show Wp (optM (blD _)) _ _); refine w_opt rfl ?_) | ((with_reducible show Wp (optM (truD _)) _ _); refine w_opt rfl ?_) | ((with_reducible refine w_eqS ?_ ?_ ?_); (first | assumption | decide +kernel); (first | assumption | decide +kernel)) | ((with_reducible refine w_tupM ?_ ?_); exact of_decide_eq_true rfl) | ((with_reducible refine w_lstM ?_ ?_); exact of_decide_eq_true rfl) | with_reducible refine w_tupM ?_ ?_ | with_reducible refine w_lstM ?_ ?_ | ((with_reducible refine w_mul ?_ ?_); first | exact Or.inl ⟨of_decide_eq_true rfl, of_decide_eq_true rfl⟩ | exact Or.inr ⟨of_decide_eq_true rfl, of_decide_eq_true rfl⟩) | ((with_reducible refine w_mod ?_ ?_); exact of_decide_eq_true rfl) | ((with_reducible refine w_div ?_ ?_); exact ⟨of_decide_eq_true rfl, of_decide_eq_true rfl⟩) | ((with_reducible refine w_pow ?_ ?_); exact ⟨of_decide_eq_true rfl, of_decide_eq_true rfl, of_decide_eq_true rfl⟩) | with_reducible refine w_mul ?_ ?_ | with_reducible refine w_div ?_ ?_ | with_reducible refine w_mod ?_ ?_ | with_reducible refine w_pow ?_ ?_ | ((with_reducible show Wp (optM _) _ _); refine w_opt rfl ?_)) | ((with_reducible change Wp _ _ _); first | with_reducible refine w_bind ?_ | with_reducible refine w_bin ?_ | with_reducible refine w_binO ?_ | with_reducible refine w_ret ?_ | with_reducible refine w_ifM ?_ | with_reducible refine w_andB ?_ | with_reducible refine w_orB ?_ | with_reducible refine w_andV ?_ | with_reducible refine w_orV ?_ | with_reducible refine w_slM ?_ | with_reducible refine w_chM ?_ | ((with_reducible show Wp (mVar _) _ _); refine w_var rfl ?_) | ((with_reducible show Wp (ixN _ _) _ _); first | refine w_ixO rfl rfl ?_ | refine w_ixD rfl rfl ?_) | ((with_reducible show Wp (lenN _) _ _); refine w_lenO rfl ?_) | ((with_reducible show Wp (frzN _) _ _); first | refine w_frzO rfl ?_ | refine w_frzD rfl ?_)) | ((with_reducible change thenO _ _ _); first | with_reducible refine thenO_nx ?_ | with_reducible refine thenO_rd ?_ | with_reducible refine thenO_ro ?_) | ((with_reducible change iteB _ _ _); first | with_reducible refine iteB_t ?_ | with_reducible refine iteB_f ?_ | ((with_reducible refine iteB_tt ?_ ?_); decide +kernel) | ((with_reducible refine iteB_ff ?_ ?_); decide +kernel) | ((with_reducible refine iteB_tt ?_ ?_); assumption) | ((with_reducible refine iteB_ff ?_ ?_); assumption) | ((with_reducible show iteB _ _ _); first | refine iteB_tt rfl ?_ | refine iteB_ff rfl ?_)) | ((with_reducible show ∃ k, truD _ = some k ∧ iteB k _ _); refine ⟨_, rfl, ?_⟩) | ((with_reducible show ∃ k, cmpD _ _ _ = some (D.bl k) ∧ iteB k _ _); refine ⟨_, rfl, ?_⟩) | ((with_reducible show iteB _ _ _); first | refine iteB_tt rfl ?_ | refine iteB_ff rfl ?_) | ((with_reducible show Wp (mVar _) _ _); refine w_var rfl ?_) | ((with_reducible show Wp (ixN _ _) _ _); first | refine w_ixO rfl rfl ?_ | refine w_ixD rfl rfl ?_) | ((with_reducible show Wp (lenN _) _ _); refine w_lenO rfl ?_) | ((with_reducible show Wp (frzN _) _ _); first | refine w_frzO rfl ?_ | refine w_frzD rfl ?_) | ((with_reducible show Wp (optM _) _ _); refine w_opt rfl ?_))))
/-! panels -/
theorem v_setF {s : S} {i : Nat} {c f : Str} {m : M D} {Q : Out → Prop} (h : Wp m s fun d s1 => ∃ fs, slotO i s1 = some (.obj c fs) ∧ fs.length < 1000 ∧ Q (.nx (s1.set i (some (.own (.obj c (putD f d fs))))))) : WS (setFM i c f m) s Q := by
  obtain ⟨d, s1, e, fs, e1, l, q⟩ := h
  exact ⟨_, by unfold setFM; rw [e]; show (match slotO i s1 with | some (.obj c' fs) => _ | _ => _) = _; rw [e1]; show (if _ then _ else _) = _; rw [if_pos ⟨rfl, l⟩], q⟩
structure Pan (xs : List Str) (ds : List D) : Prop where
  l0 : 0 < xs.length
  l1 : xs.length ≤ 10
  nd : xs.Nodup
  nm : ∀ x ∈ xs, Nm x
  lr : ds.length ≤ 240
  ru : ∀ d ∈ ds, IsRule xs d
theorem w_mkO {s : S} {n : Nat} {body : MS} {c : Str} {ms : M (List D)} {g : List D → List D} {Q : O → S → Prop} (h : Wp ms s fun xs s1 => ∃ o, mkR n body c (g xs) = some o ∧ Q o s1) : Wp (mkO n body c ms g) s Q := w_bind (h.mono fun xs s1 ⟨o, e, q⟩ => w_opt e q)
end Fli
set_option Elab.async false
set_option linter.all false
set_option maxRecDepth 100000
set_option maxHeartbeats 1000000
namespace Fli
open PySem L2
/-! literals, rules, settings, as they are meant -/
abbrev Lit := Str × Bool
def sgn : Bool → Str
  | true => "+"
  | false => "-"
inductive Ru where
  | be (l : Lit) | either (l m : Lit) | needs (l m : Lit) | bars (l m : Lit) | same (x y : Str) | unlike (x y : Str)
def dL (l : Lit) : D := .tup [.str l.1, .str (sgn l.2)]
def Ru.d : Ru → D
  | .be l => .tup [.str "be", dL l]
  | .either l m => .tup [.str "either", dL l, dL m]
  | .needs l m => .tup [.str "needs", dL l, dL m]
  | .bars l m => .tup [.str "bars", dL l, dL m]
  | .same x y => .tup [.str "same", .str x, .str y]
  | .unlike x y => .tup [.str "unlike", .str x, .str y]
def Ru.ok (xs : List Str) : Ru → Prop
  | .be l => l.1 ∈ xs
  | .either l m => l.1 ∈ xs ∧ m.1 ∈ xs ∧ l.1 ≠ m.1
  | .needs l m => l.1 ∈ xs ∧ m.1 ∈ xs ∧ l.1 ≠ m.1
  | .bars l m => l.1 ∈ xs ∧ m.1 ∈ xs ∧ l.1 ≠ m.1
  | .same x y => x ∈ xs ∧ y ∈ xs ∧ x ≠ y
  | .unlike x y => x ∈ xs ∧ y ∈ xs ∧ x ≠ y
def op (l : Lit) : Lit := (l.1, !l.2)
/-- of each pair one has to hold -/
def Ru.cl : Ru → List (Lit × Lit)
  | .be l => [(l, l)]
  | .either l m => [(l, m)]
  | .needs l m => [(op l, m)]
  | .bars l m => [(op l, op m)]
  | .same x y => [((x, false), (y, true)), ((x, true), (y, false))]
  | .unlike x y => [((x, true), (y, true)), ((x, false), (y, false))]
def pos (xs : List Str) (x : Str) : Nat := xs.findIdx (· == x)
def val (xs : List Str) (b : List Bool) (x : Str) : Bool := b.getD (pos xs x) false
/-! texts of signs -/
/-! all settings, in their order -/
end Fli
set_option Elab.async false
set_option linter.all false
set_option maxRecDepth 100000
set_option maxHeartbeats 1000000
namespace Fli
open PySem L2
abbrev nsD (xs : List Str) : D := .tup (xs.map D.str)
theorem len_le {n : Nat} (h : n ≤ 100000) : n ≤ sizeLine := Nat.le_trans h (by decide)
theorem rdb {a b : Bool} {s : S} (e : a = b) : ∃ s2, Out.rd (.bl a) s = Out.rd (.bl b) s2 := ⟨s, by rw [e]⟩
theorem all_map {α : Type} {p : α → Bool} {qs : List α} : allD [.lst (qs.map fun q => .bl (p q))] = some (.bl (qs.all p)) := by
  have e : ∀ qs : List α, blsD (qs.map fun q => .bl (p q)) = some (qs.map p) := by
    intro qs
    induction qs with
    | nil => rfl
    | cons q qs ih => show (blsD (qs.map fun q => .bl (p q))).map _ = _; rw [ih]; rfl
  show (blsD _).map _ = _
  rw [e]
  show some (D.bl ((qs.map p).all id)) = _
  rw [List.all_map]
  rfl
theorem eq_int (neg : Bool) (a b : Int) : eqD neg (.int a) (.int b) = some (.bl (neg ^^ (a == b))) := by
  show (if SeqAt.shaped (.int a) = true ∧ SeqAt.shaped (.int b) = true then some (D.bl (neg ^^ PyData.eqv (.int a) (.int b))) else none) = _
  have s : ∀ a : Int, SeqAt.shaped (.int a) = true := fun a => by unfold SeqAt.shaped; simp [PyData.canLay0, PyData.depth]
  rw [if_pos ⟨s a, s b⟩]
  simp only [PyData.eqv]
/-! values that are handed in: of any kind -/
inductive Ov : D → Prop where
  | non : Ov .non
  | bl (b : Bool) : Ov (.bl b)
  | int (i : Int) : Ov (.int i)
  | str (x : Str) (h : PyData.strOk x = true ∧ x.length ≤ 1000) : Ov (.str x)
  | lst (ds : List D) : Ov (.lst ds)
  | dic (kvs : List (Key × D)) : Ov (.dic kvs)
  | tup {ds : List D} (h : ∀ d ∈ ds, Ov d) : Ov (.tup ds)
theorem Ov.mem {ds : List D} (h : Ov (.tup ds)) : ∀ d ∈ ds, Ov d := by cases h; assumption
def strB : D → Bool
  | .str _ => true
  | _ => false
def tupB : D → Bool
  | .tup _ => true
  | _ => false
theorem is_str {d : D} (h : Ov d) : isB "str" d = some (.bl (strB d)) := by cases h <;> rfl
theorem is_tup {d : D} (h : Ov d) : isB "tuple" d = some (.bl (tupB d)) := by cases h <;> rfl
theorem tup_of {d : D} (h : tupB d = true) : ∃ ds, d = .tup ds := by
  cases d <;> first | exact ⟨_, rfl⟩ | cases h
theorem str_of {d : D} (h : strB d = true) : ∃ x, d = .str x := by
  cases d <;> first | exact ⟨_, rfl⟩ | cases h
def sigO (s : Str) : Option Bool := if s = "+" then some true else if s = "-" then some false else none
theorem sgn_of {s : Str} {t : Bool} (h : sigO s = some t) : s = sgn t := by
  unfold sigO at h
  split at h
  · cases h; assumption
  · split at h
    · cases h; assumption
    · cases h
/-- the literal that a value is -/
def markD (xs : List Str) : D → Option Lit
  | .tup [.str x, .str s] => if x ∈ xs then (sigO s).map fun t => (x, t) else none
  | _ => none
section
variable {xs : List Str} {rs : List Ru} {l m h : Lit}
theorem mark_of {d : D} (e : markD xs d = some l) : d = dL l ∧ l.1 ∈ xs := by
  unfold markD at e
  split at e
  · split at e
    · rename_i x s hx
      obtain ⟨t, e1, rfl⟩ := Option.map_eq_some_iff.mp e
      rw [sgn_of e1]
      exact ⟨rfl, hx⟩
    · cases e
  · cases e
theorem in_ns {x : Str} : inD false (.str x) (nsD xs) = some (.bl (decide (x ∈ xs))) := by
  have e : flDs (xs.map D.str) = some (xs.map V.str) := by
    induction xs with
    | nil => rfl
    | cons y ys ih => rw [List.map_cons, flDs, ih]; rfl
  show ((flD (.str x)).bind fun a => (flDs (xs.map D.str)).map fun bs => D.bl (false ^^ inV a bs)) = _
  rw [e]
  show some (D.bl (false ^^ inV (.str x) (xs.map V.str))) = _
  rw [inV_map, Bool.false_xor]
theorem in_sg {s : Str} : inD false (.str s) (.tup [.str "+", .str "-"]) = some (.bl (sigO s).isSome) ∧ inD false (.str s) (.lst [.str "+", .str "-"]) = some (.bl (sigO s).isSome) := by
  have e : decide (s ∈ (["+", "-"] : List Str)) = (sigO s).isSome := by
    unfold sigO
    by_cases h1 : s = "+"
    · rw [if_pos h1]; simp [h1]
    · rw [if_neg h1]
      by_cases h2 : s = "-"
      · rw [if_pos h2]; simp [h2]
      · rw [if_neg h2]; simp [h1, h2]
  have k : inD false (.str s) (nsD ["+", "-"]) = some (.bl (sigO s).isSome) := by rw [in_ns, e]
  exact ⟨k, k⟩
theorem two_of {α : Type} {ds : List α} (h : ds.length = 2) : ∃ a b, ds = [a, b] := by
  match ds, h with
  | [a, b], _ => exact ⟨a, b, rfl⟩
theorem mark_len {ds : List D} (h : ds.length ≠ 2) : markD xs (.tup ds) = none := by
  unfold markD
  split
  · rename_i e
    cases e
    exact absurd rfl h
  · rfl
theorem mark_two {a c : D} (h : (strB a && strB c) = false) : markD xs (.tup [a, c]) = none := by
  unfold markD
  split
  · rename_i e
    cases e
    cases h
  · rfl
theorem mark_no {d : D} (h : tupB d = false) : markD xs d = none := by
  cases d <;> first | rfl | cases h
end
theorem ov_str {x : Str} (o : Ov (.str x)) : PyData.strOk x = true ∧ x.length ≤ 1000 := by cases o; assumption
end Fli
set_option Elab.async false
set_option linter.all false
set_option maxRecDepth 100000
set_option maxHeartbeats 1000000
namespace Fli
open PySem L2
local macro_rules | `(tactic| array_mem_dec) => `(tactic| (repeat (first | ((with_reducible change WS _ _ _); first | with_reducible refine v_seq ?_ | with_reducible refine v_nx ?_ | with_reducible refine v_ret ?_ | with_reducible refine v_retO ?_ | with_reducible refine v_if ?_ | with_reducible refine v_asg ?_ | with_reducible refine v_asgO ?_ | with_reducible refine v_asgF ?_ | with_reducible refine v_drop ?_ | with_reducible refine v_par ?_ | with_reducible refine v_par3 ?_ | with_reducible refine v_put ?_) | ((with_reducible change Wp (optM _) _ _); first | ((with_reducible show Wp (optM (blD _)) _ _); refine w_opt rfl ?_) | ((with_reducible show Wp (optM (truD _)) _ _); refine w_opt rfl ?_) | ((with_reducible refine w_eqS ?_ ?_ ?_); (first | assumption | decide +kernel); (first | assumption | decide +kernel)) | ((with_reducible refine w_tupM ?_ ?_); exact of_decide_eq_true rfl) | ((with_reducible refine w_lstM ?_ ?_); exact of_decide_eq_true rfl) | with_reducible refine w_tupM ?_ ?_ | with_reducible refine w_lstM ?_ ?_ | ((with_reducible refine w_mul ?_ ?_); first | exact Or.inl ⟨of_decide_eq_true rfl, of_decide_eq_true rfl⟩ | exact Or.inr ⟨of_decide_eq_true rfl, of_decide_eq_true rfl⟩) | ((with_reducible refine w_mod ?_ ?_); exact of_decide_eq_true rfl) | ((with_reducible refine w_div ?_ ?_); exact ⟨of_decide_eq_true rfl, of_decide_eq_true rfl⟩) | ((with_reducible refine w_pow ?_ ?_); exact ⟨of_decide_eq_true rfl, of_decide_eq_true rfl, of_decide_eq_true rfl⟩) | with_reducible refine w_mul ?_ ?_ | with_reducible refine w_div ?_ ?_ | with_reducible refine w_mod ?_ ?_ | with_reducible refine w_pow ?_ ?_ | ((with_reducible show Wp (optM _) _ _); (fail_if_success (with_reducible show Wp (optM (lenC _ _ _ _)) _ _)); (fail_if_success (with_reducible show Wp (optM (truC _ _ _ _)) _ _)); (fail_if_success (with_reducible show Wp (optM (strC _ _ _ _)) _ _)); (fail_if_success (with_reducible show Wp (optM (eqO _ _ _ _ _)) _ _)); (fail_if_success (with_reducible show Wp (optM (neO _ _ _ _ _)) _ _)); (fail_if_success (with_reducible show Wp (optM (reprD _)) _ _)); (fail_if_success (with_reducible show Wp (optM (Option.map D.bl _)) _ _)); (fail_if_success (with_reducible show Wp (optM (ownM _ _ _)) _ _)); (fail_if_success (with_reducible show Wp (optM (methO _ _ _ _ _)) _ _)); (fail_if_success (with_reducible show Wp (optM (eqD _ _ _)) _ _)); refine w_opt rfl ?_)) | ((with_reducible change Wp _ _ _); first | with_reducible refine w_bind ?_ | with_reducible refine w_bin ?_ | with_reducible refine w_binO ?_ | with_reducible refine w_ret ?_ | with_reducible refine w_ifM ?_ | with_reducible refine w_andB ?_ | with_reducible refine w_orB ?_ | with_reducible refine w_andV ?_ | with_reducible refine w_orV ?_ | with_reducible refine w_slM ?_ | with_reducible refine w_chM ?_ | ((with_reducible show Wp (mVar _) _ _); refine w_var rfl ?_) | ((with_reducible show Wp (ixN _ _) _ _); first | refine w_ixO rfl rfl ?_ | refine w_ixD rfl rfl ?_) | ((with_reducible show Wp (lenN _) _ _); refine w_lenO rfl ?_) | ((with_reducible show Wp (frzN _) _ _); first | refine w_frzO rfl ?_ | refine w_frzD rfl ?_)) | ((with_reducible change thenO _ _ _); first | with_reducible refine thenO_nx ?_ | with_reducible refine thenO_rd ?_ | with_reducible refine thenO_ro ?_) | ((with_reducible change iteB _ _ _); first | with_reducible refine iteB_t ?_ | with_reducible refine iteB_f ?_ | ((with_reducible refine iteB_tt ?_ ?_); decide +kernel) | ((with_reducible refine iteB_ff ?_ ?_); decide +kernel) | ((with_reducible refine iteB_tt ?_ ?_); assumption) | ((with_reducible refine iteB_ff ?_ ?_); assumption) | ((with_reducible show iteB _ _ _); first | refine iteB_tt rfl ?_ | refine iteB_ff rfl ?_)) | ((with_reducible show ∃ k, truD _ = some k ∧ iteB k _ _); refine ⟨_, rfl, ?_⟩) | ((with_reducible show ∃ k, cmpD _ _ _ = some (D.bl k) ∧ iteB k _ _); refine ⟨_, rfl, ?_⟩) | ((with_reducible show iteB _ _ _); first | refine iteB_tt rfl ?_ | refine iteB_ff rfl ?_) | ((with_reducible show Wp (mVar _) _ _); refine w_var rfl ?_) | ((with_reducible show Wp (ixN _ _) _ _); first | refine w_ixO rfl rfl ?_ | refine w_ixD rfl rfl ?_) | ((with_reducible show Wp (lenN _) _ _); refine w_lenO rfl ?_) | ((with_reducible show Wp (frzN _) _ _); first | refine w_frzO rfl ?_ | refine w_frzD rfl ?_) | ((with_reducible show Wp (optM _) _ _); (fail_if_success (with_reducible show Wp (optM (lenC _ _ _ _)) _ _)); (fail_if_success (with_reducible show Wp (optM (truC _ _ _ _)) _ _)); (fail_if_success (with_reducible show Wp (optM (strC _ _ _ _)) _ _)); (fail_if_success (with_reducible show Wp (optM (eqO _ _ _ _ _)) _ _)); (fail_if_success (with_reducible show Wp (optM (neO _ _ _ _ _)) _ _)); (fail_if_success (with_reducible show Wp (optM (reprD _)) _ _)); (fail_if_success (with_reducible show Wp (optM (Option.map D.bl _)) _ _)); (fail_if_success (with_reducible show Wp (optM (ownM _ _ _)) _ _)); (fail_if_success (with_reducible show Wp (optM (methO _ _ _ _ _)) _ _)); (fail_if_success (with_reducible show Wp (optM (eqD _ _ _)) _ _)); refine w_opt rfl ?_))))
/-! ways: where a value leads -/
section
variable {xs : List Str} {rs : List Ru} {l m h : Lit}
def swB (xs : List Str) : D → Bool
  | .str x => decide (x ∈ xs)
  | _ => false
def sgB : D → Bool
  | .str s => (sigO s).isSome
  | _ => false
theorem sw_ok {d : D} (o : Ov d) : ownM 2 m_is_switch [nsD xs, d] = some (.bl (swB xs d)) := by
  refine own_of ?_
  unfold m_is_switch
  refine v_seq (v_ret (w_andV (w_bind (w_var rfl (w_opt (is_str o) ?_)))))
  refine ⟨_, rfl, ?_⟩
  cases hs : strB d with
  | false =>
    have e : swB xs d = false := by cases d <;> first | rfl | cases hs
    rw [e]
    exact iteB_f ⟨_, rfl⟩
  | true =>
    obtain ⟨x, rfl⟩ := str_of hs
    exact iteB_t (w_bin (w_var rfl (w_var rfl (w_opt in_ns ⟨_, rfl⟩))))
theorem sgn_ok {d : D} (o : Ov d) : ownM 1 m_is_sign [d] = some (.bl (sgB d)) := by
  refine own_of ?_
  unfold m_is_sign
  refine v_seq (v_ret (w_andV (w_bind (w_var rfl (w_opt (is_str o) ?_)))))
  refine ⟨_, rfl, ?_⟩
  cases hs : strB d with
  | false =>
    have e : sgB d = false := by cases d <;> first | rfl | cases hs
    rw [e]
    exact iteB_f ⟨_, rfl⟩
  | true =>
    obtain ⟨x, rfl⟩ := str_of hs
    exact iteB_t (w_bin (w_var rfl (w_ret (w_opt in_sg.1 ⟨_, rfl⟩))))
theorem mark_both {a c : D} : (markD xs (.tup [a, c])).isSome = (swB xs a && sgB c) := by
  cases hs : (strB a && strB c) with
  | false =>
    rw [mark_two hs]
    rw [Bool.and_eq_false_iff] at hs
    rcases hs with hs | hs
    · have e : swB xs a = false := by cases a <;> first | rfl | cases hs
      rw [e]; rfl
    · have e : sgB c = false := by cases c <;> first | rfl | cases hs
      rw [e, Bool.and_false]; rfl
  | true =>
    rw [Bool.and_eq_true] at hs
    obtain ⟨x, rfl⟩ := str_of hs.1
    obtain ⟨s, rfl⟩ := str_of hs.2
    show (if x ∈ xs then (sigO s).map fun t => (x, t) else none).isSome = (decide (x ∈ xs) && (sigO s).isSome)
    by_cases hx : x ∈ xs
    · rw [if_pos hx, decide_eq_true hx, Option.isSome_map, Bool.true_and]
    · rw [if_neg hx, decide_eq_false hx]; rfl
theorem lit_ok {d : D} (o : Ov d) : ownM 2 m_is_literal [nsD xs, d] = some (.bl (markD xs d).isSome) := by
  refine own_of ?_
  unfold m_is_literal
  refine v_seq (v_if (w_orB (w_bind (w_bind (w_bind (w_var rfl (w_opt (is_tup o) (w_opt rfl (w_ret ?_)))))))))
  cases ht : tupB d with
  | false =>
    rw [mark_no ht]
    refine iteB_t (iteB_t ?_)
    array_mem_dec
    exact ⟨_, rfl⟩
  | true =>
    obtain ⟨ds, rfl⟩ := tup_of ht
    refine iteB_f ?_
    array_mem_dec
    refine w_opt (eq_int _ _ _) ?_
    array_mem_dec
    by_cases l2 : ds.length = 2
    · obtain ⟨a, c, rfl⟩ := two_of l2
      have oa := o.mem a (by simp)
      have oc := o.mem c (by simp)
      rw [mark_both]
      refine iteB_ff (by simp) (v_nx (thenO_nx (v_seq (v_ret (w_andV ?_)))))
      refine w_own (sw_ok (xs := xs) oa) ?_
      refine w_bind (w_var rfl (w_bind (w_bind (w_bin (w_var rfl (w_ret (w_opt (show atD (.tup [a, c]) (.int 0) = some a from rfl) (w_bind (w_ret (w_ret (w_ret ⟨rfl, ?_⟩)))))))))))
      refine ⟨_, rfl, ?_⟩
      cases swB xs a with
      | false => exact iteB_f ⟨_, rfl⟩
      | true =>
        refine iteB_t (w_own (sgn_ok oc) ?_)
        exact w_bind (w_bin (w_var rfl (w_ret (w_opt (show atD (.tup [a, c]) (.int 1) = some c from rfl) (w_bind (w_ret (w_ret ⟨rfl, ⟨_, rfl⟩⟩)))))))
    · rw [mark_len l2]
      refine iteB_tt (by simp; omega) ?_
      array_mem_dec
      exact ⟨_, rfl⟩
end
end Fli
set_option Elab.async false
set_option linter.all false
set_option maxRecDepth 100000
set_option maxHeartbeats 1000000
namespace Fli
open PySem L2
/-! rules, of any kind -/
def litR (w : Str) : Option (Lit → Lit → Ru) := if w = "either" then some .either else if w = "needs" then some .needs else if w = "bars" then some .bars else none
def namR (w : Str) : Option (Str → Str → Ru) := if w = "same" then some .same else if w = "unlike" then some .unlike else none
def swO (xs : List Str) : D → Option Str
  | .str x => if x ∈ xs then some x else none
  | _ => none
def litP (xs : List Str) (f : Lit → Lit → Ru) (a b : D) : Option Ru := (markD xs a).bind fun l => (markD xs b).bind fun m => if l.1 = m.1 then none else some (f l m)
def namP (xs : List Str) (f : Str → Str → Ru) (a b : D) : Option Ru := (swO xs a).bind fun x => (swO xs b).bind fun y => if x = y then none else some (f x y)
def threeD (xs : List Str) (w : Str) (a b : D) : Option Ru := match litR w with
  | some f => litP xs f a b
  | none => match namR w with
    | some f => namP xs f a b
    | none => none
def ruleD (xs : List Str) : D → Option Ru
  | .tup [.str w, a] => if w = "be" then (markD xs a).map .be else none
  | .tup [.str w, a, b] => threeD xs w a b
  | _ => none
section
variable {xs : List Str} {rs : List Ru} {l m h : Lit} {b : List Bool}
theorem swO_of {d : D} {x : Str} (e : swO xs d = some x) : d = .str x ∧ x ∈ xs := by
  unfold swO at e
  split at e
  · split at e
    · cases e; exact ⟨rfl, by assumption⟩
    · cases e
  · cases e
theorem swO_b {d : D} : (swO xs d).isSome = swB xs d := by
  cases d with
  | str x => show (if x ∈ xs then some x else none).isSome = decide (x ∈ xs); split <;> simp [*]
  | _ => rfl
end
end Fli
set_option Elab.async false
set_option linter.all false
set_option maxRecDepth 100000
set_option maxHeartbeats 1000000
namespace Fli
open PySem L2
local macro_rules | `(tactic| array_mem_dec) => `(tactic| (repeat (first | ((with_reducible change WS _ _ _); first | with_reducible refine v_seq ?_ | with_reducible refine v_nx ?_ | with_reducible refine v_ret ?_ | with_reducible refine v_retO ?_ | with_reducible refine v_if ?_ | with_reducible refine v_asg ?_ | with_reducible refine v_asgO ?_ | with_reducible refine v_asgF ?_ | with_reducible refine v_drop ?_ | with_reducible refine v_par ?_ | with_reducible refine v_par3 ?_ | with_reducible refine v_put ?_) | ((with_reducible change Wp (optM _) _ _); first | ((with_reducible show Wp (optM (blD _)) _ _); refine w_opt rfl ?_) | ((with_reducible show Wp (optM (truD _)) _ _); refine w_opt rfl ?_) | ((with_reducible refine w_eqS ?_ ?_ ?_); (first | assumption | decide +kernel); (first | assumption | decide +kernel)) | ((with_reducible refine w_tupM ?_ ?_); exact of_decide_eq_true rfl) | ((with_reducible refine w_lstM ?_ ?_); exact of_decide_eq_true rfl) | with_reducible refine w_tupM ?_ ?_ | with_reducible refine w_lstM ?_ ?_ | ((with_reducible refine w_mul ?_ ?_); first | exact Or.inl ⟨of_decide_eq_true rfl, of_decide_eq_true rfl⟩ | exact Or.inr ⟨of_decide_eq_true rfl, of_decide_eq_true rfl⟩) | ((with_reducible refine w_mod ?_ ?_); exact of_decide_eq_true rfl) | ((with_reducible refine w_div ?_ ?_); exact ⟨of_decide_eq_true rfl, of_decide_eq_true rfl⟩) | ((with_reducible refine w_pow ?_ ?_); exact ⟨of_decide_eq_true rfl, of_decide_eq_true rfl, of_decide_eq_true rfl⟩) | with_reducible refine w_mul ?_ ?_ | with_reducible refine w_div ?_ ?_ | with_reducible refine w_mod ?_ ?_ | with_reducible refine w_pow ?_ ?_ | ((with_reducible show Wp (optM _) _ _); (fail_if_success (with_reducible show Wp (optM (lenC _ _ _ _)) _ _)); (fail_if_success (with_reducible show Wp (optM (truC _ _ _ _)) _ _)); (fail_if_success (with_reducible show Wp (optM (strC _ _ _ _)) _ _)); (fail_if_success (with_reducible show Wp (optM (eqO _ _ _ _ _)) _ _)); (fail_if_success (with_reducible show Wp (optM (neO _ _ _ _ _)) _ _)); (fail_if_success (with_reducible show Wp (optM (reprD _)) _ _)); (fail_if_success (with_reducible show Wp (optM (Option.map D.bl _)) _ _)); (fail_if_success (with_reducible show Wp (optM (ownM _ _ _)) _ _)); (fail_if_success (with_reducible show Wp (optM (methO _ _ _ _ _)) _ _)); (fail_if_success (with_reducible show Wp (optM (eqD _ _ _)) _ _)); refine w_opt rfl ?_)) | ((with_reducible change Wp _ _ _); first | with_reducible refine w_bind ?_ | with_reducible refine w_bin ?_ | with_reducible refine w_binO ?_ | with_reducible refine w_ret ?_ | with_reducible refine w_ifM ?_ | with_reducible refine w_andB ?_ | with_reducible refine w_orB ?_ | with_reducible refine w_andV ?_ | with_reducible refine w_orV ?_ | with_reducible refine w_slM ?_ | with_reducible refine w_chM ?_ | ((with_reducible show Wp (mVar _) _ _); refine w_var rfl ?_) | ((with_reducible show Wp (ixN _ _) _ _); first | refine w_ixO rfl rfl ?_ | refine w_ixD rfl rfl ?_) | ((with_reducible show Wp (lenN _) _ _); refine w_lenO rfl ?_) | ((with_reducible show Wp (frzN _) _ _); first | refine w_frzO rfl ?_ | refine w_frzD rfl ?_)) | ((with_reducible change thenO _ _ _); first | with_reducible refine thenO_nx ?_ | with_reducible refine thenO_rd ?_ | with_reducible refine thenO_ro ?_) | ((with_reducible change iteB _ _ _); first | with_reducible refine iteB_t ?_ | with_reducible refine iteB_f ?_ | ((with_reducible refine iteB_tt ?_ ?_); decide +kernel) | ((with_reducible refine iteB_ff ?_ ?_); decide +kernel) | ((with_reducible refine iteB_tt ?_ ?_); assumption) | ((with_reducible refine iteB_ff ?_ ?_); assumption) | ((with_reducible show iteB _ _ _); first | refine iteB_tt rfl ?_ | refine iteB_ff rfl ?_)) | ((with_reducible show ∃ k, truD _ = some k ∧ iteB k _ _); refine ⟨_, rfl, ?_⟩) | ((with_reducible show ∃ k, cmpD _ _ _ = some (D.bl k) ∧ iteB k _ _); refine ⟨_, rfl, ?_⟩) | ((with_reducible show iteB _ _ _); first | refine iteB_tt rfl ?_ | refine iteB_ff rfl ?_) | ((with_reducible show Wp (mVar _) _ _); refine w_var rfl ?_) | ((with_reducible show Wp (ixN _ _) _ _); first | refine w_ixO rfl rfl ?_ | refine w_ixD rfl rfl ?_) | ((with_reducible show Wp (lenN _) _ _); refine w_lenO rfl ?_) | ((with_reducible show Wp (frzN _) _ _); first | refine w_frzO rfl ?_ | refine w_frzD rfl ?_) | ((with_reducible show Wp (optM _) _ _); (fail_if_success (with_reducible show Wp (optM (lenC _ _ _ _)) _ _)); (fail_if_success (with_reducible show Wp (optM (truC _ _ _ _)) _ _)); (fail_if_success (with_reducible show Wp (optM (strC _ _ _ _)) _ _)); (fail_if_success (with_reducible show Wp (optM (eqO _ _ _ _ _)) _ _)); (fail_if_success (with_reducible show Wp (optM (neO _ _ _ _ _)) _ _)); (fail_if_success (with_reducible show Wp (optM (reprD _)) _ _)); (fail_if_success (with_reducible show Wp (optM (Option.map D.bl _)) _ _)); (fail_if_success (with_reducible show Wp (optM (ownM _ _ _)) _ _)); (fail_if_success (with_reducible show Wp (optM (methO _ _ _ _ _)) _ _)); (fail_if_success (with_reducible show Wp (optM (eqD _ _ _)) _ _)); refine w_opt rfl ?_))))
section
variable {xs : List Str} {rs : List Ru} {l m h : Lit} {b : List Bool}
theorem eq_str {x y : Str} (hx : PyData.strOk x = true) (hy : PyData.strOk y = true) (neg : Bool) : eqD neg (.str x) (.str y) = some (.bl (neg ^^ decide (x = y))) := by
  show (if SeqAt.shaped (.str x) = true ∧ SeqAt.shaped (.str y) = true then some (D.bl (neg ^^ PyData.eqv (.str x) (.str y))) else none) = _
  rw [if_pos ⟨shaped_str.trans hx, shaped_str.trans hy⟩]
  have e : PyData.eqv (.str x) (.str y) = (x == y) := by simp only [PyData.eqv]
  rw [e]
  rfl
theorem lit_mem {w : Str} : decide (w ∈ (["either", "needs", "bars"] : List Str)) = (litR w).isSome := by
  unfold litR
  by_cases h1 : w = "either"
  · simp [h1]
  · by_cases h2 : w = "needs"
    · rw [if_neg h1, if_pos h2]; simp [h2]
    · by_cases h3 : w = "bars"
      · rw [if_neg h1, if_neg h2, if_pos h3]; simp [h3]
      · rw [if_neg h1, if_neg h2, if_neg h3]; simp [h1, h2, h3]
theorem nam_mem {w : Str} : decide (w ∈ (["same", "unlike"] : List Str)) = (namR w).isSome := by
  unfold namR
  by_cases h1 : w = "same"
  · simp [h1]
  · by_cases h2 : w = "unlike"
    · rw [if_neg h1, if_pos h2]; simp [h2]
    · rw [if_neg h1, if_neg h2]; simp [h1, h2]
theorem nam_lit {w : Str} (h : (namR w).isSome = true) : litR w = none := by
  rw [← nam_mem, decide_eq_true_iff] at h
  simp only [List.mem_cons, List.not_mem_nil, or_false] at h
  rcases h with rfl | rfl <;> decide +kernel
theorem be_none : threeD xs "be" = fun _ _ => none := by
  funext a b
  have e1 : litR "be" = none := by decide +kernel
  have e2 : namR "be" = none := by decide +kernel
  unfold threeD
  rw [e1, e2]
theorem rule_len {ds : List D} (h2 : ds.length ≠ 2) (h3 : ds.length ≠ 3) : ruleD xs (.tup ds) = none := by
  unfold ruleD
  split
  · rename_i e; cases e; exact absurd rfl h2
  · rename_i e; cases e; exact absurd rfl h3
  · rfl
theorem rule_head {a : D} {ds : List D} (h : strB a = false) : ruleD xs (.tup (a :: ds)) = none := by
  unfold ruleD
  split
  · rename_i e; cases e; cases h
  · rename_i e; cases e; cases h
  · rfl
theorem rule_no {d : D} (h : tupB d = false) : ruleD xs d = none := by
  cases d <;> first | rfl | cases h
theorem litP_some {f : Lit → Lit → Ru} {a c : D} : (litP xs f a c).isSome = ((markD xs a).isSome && ((markD xs c).isSome && match markD xs a, markD xs c with | some l, some m => !decide (l.1 = m.1) | _, _ => true)) := by
  unfold litP
  cases markD xs a with
  | none => rfl
  | some l =>
    cases markD xs c with
    | none => rfl
    | some m =>
      show (if l.1 = m.1 then none else some (f l m)).isSome = (true && (true && !decide (l.1 = m.1)))
      by_cases e : l.1 = m.1 <;> simp [e]
theorem namP_some {f : Str → Str → Ru} {a c : D} : (namP xs f a c).isSome = ((swO xs a).isSome && ((swO xs c).isSome && match swO xs a, swO xs c with | some x, some y => !decide (x = y) | _, _ => true)) := by
  unfold namP
  cases swO xs a with
  | none => rfl
  | some l =>
    cases swO xs c with
    | none => rfl
    | some m =>
      show (if l = m then none else some (f l m)).isSome = (true && (true && !decide (l = m)))
      by_cases e : l = m <;> simp [e]
theorem at_name {a : D} (e : markD xs a = some l) : atD a (.int 0) = some (.str l.1) := by
  rw [(mark_of e).1]
  rfl
theorem at0T {a : D} {l : List D} : atD (.tup (a :: l)) (.int 0) = some a := by
  show atI (a :: l) 0 = _
  unfold atI L2.ixN
  rw [if_pos (by decide), if_pos (by simp only [List.length_cons]; omega)]
  rfl
theorem prule (hn : ∀ x ∈ xs, PyData.strOk x = true) {d : D} (o : Ov d) : ownM 5 m_is_rule [nsD xs, d] = some (.bl (ruleD xs d).isSome) := by
  refine own_of ?_
  unfold m_is_rule
  show WS _ [some (.d (nsD xs)), some (.d d), none, none, none] _
  refine v_seq (v_if (w_orB (w_bind (w_bind (w_bind (w_var rfl (w_opt (is_tup o) (w_opt rfl (w_ret ?_)))))))))
  cases ht : tupB d with
  | false =>
    rw [rule_no ht]
    refine iteB_t (iteB_t ?_)
    array_mem_dec
    exact ⟨_, rfl⟩
  | true =>
    obtain ⟨ds, rfl⟩ := tup_of ht
    refine iteB_f (w_orB (w_bind (w_bind (w_chM ?_))))
    array_mem_dec
    by_cases l2 : 2 ≤ ds.length
    · refine iteB_tt (decide_eq_true (by omega)) ?_
      refine w_ret (w_opt (a := D.bl (decide ((ds.length : Int) ≤ 3))) rfl (w_opt rfl (w_ret ?_)))
      by_cases l3 : ds.length ≤ 3
      · refine iteB_ff (by simp; omega) ?_
        obtain ⟨a, es, rfl⟩ : ∃ a es, ds = a :: es := by
          cases ds with
          | nil => simp at l2
          | cons a es => exact ⟨a, es, rfl⟩
        have oa := o.mem a (by simp)
        refine w_bind (w_bind (w_bind (w_bin (w_var rfl (w_ret (w_opt (a := a) (at0T (l := es)) (w_opt (is_str oa) (w_opt rfl (w_ret ?_)))))))))
        cases hs : strB a with
        | false =>
          rw [rule_head hs]
          refine iteB_t ?_
          array_mem_dec
          exact ⟨_, rfl⟩
        | true =>
          obtain ⟨w, rfl⟩ := str_of hs
          have ow := (ov_str oa).1
          refine iteB_f (v_nx (thenO_nx ?_))
          match es, l2, l3 with
          | [c], _, _ =>
            have oc := o.mem c (by simp)
            refine v_seq (v_if (w_bind (w_bin ?_)))
            array_mem_dec
            refine w_opt (eq_int _ _ _) (w_opt rfl (iteB_tt rfl ?_))
            refine v_seq (v_ret (w_andV (w_bin (w_bin (w_var rfl (w_ret (w_opt (a := D.str w) rfl (w_ret (w_opt (eq_str ow (by decide +kernel) false) ?_)))))))))
            refine ⟨_, rfl, ?_⟩
            show iteB _ _ _
            have er : (ruleD xs (.tup [.str w, c])).isSome = (decide (w = "be") && (markD xs c).isSome) := by
              show (if w = "be" then (markD xs c).map Ru.be else none).isSome = _
              by_cases hw : w = "be"
              · rw [if_pos hw, Option.isSome_map, decide_eq_true hw, Bool.true_and]
              · rw [if_neg hw, decide_eq_false hw, Bool.false_and]; rfl
            rw [er]
            by_cases hw : w = "be"
            · refine iteB_tt (by simp [hw]) ?_
              refine w_own (lit_ok (xs := xs) oc) ?_
              array_mem_dec
              refine ⟨rfl, ?_⟩
              exact rdb (by rw [decide_eq_true hw, Bool.true_and])
            · refine iteB_ff (by simp [hw]) ?_
              exact rdb (by rw [decide_eq_false hw]; rfl)
          | [c, e], _, _ =>
            have er : ruleD xs (.tup [.str w, c, e]) = threeD xs w c e := rfl
            rw [er]
            have oc := o.mem c (by simp)
            have oe := o.mem e (by simp)
            refine v_seq (v_if (w_bind (w_bin ?_)))
            array_mem_dec
            refine w_opt (eq_int _ _ _) (w_opt rfl (iteB_ff rfl ?_))
            refine v_nx (thenO_nx (v_seq (v_asgF (w_var rfl ⟨_, rfl, ?_⟩))))
            show thenO _ _ (.nx [some (.d (nsD xs)), some (.d (.tup [.str w, c, e])), some (.d (.str w)), some (.d c), some (.d e)])
            refine thenO_nx (v_seq (v_if (w_bind (w_bin (w_var rfl (w_ret (w_opt (in_ns (x := w) (xs := ["either", "needs", "bars"])) (w_opt rfl ?_))))))))
            rw [lit_mem]
            cases hf : litR w with
            | some f =>
              have e1 : threeD xs w c e = litP xs f c e := by unfold threeD; rw [hf]
              rw [e1, litP_some]
              refine iteB_t (v_seq (v_ret (w_andV (w_own (lit_ok (xs := xs) oc) ?_))))
              array_mem_dec
              refine ⟨rfl, ?_⟩
              refine ⟨_, rfl, ?_⟩
              cases h1 : markD xs c with
              | none => exact iteB_f ⟨_, rfl⟩
              | some l =>
                refine iteB_t (w_andV (w_own (lit_ok (xs := xs) oe) ?_))
                array_mem_dec
                refine ⟨rfl, ?_⟩
                refine ⟨_, rfl, ?_⟩
                cases h2 : markD xs e with
                | none => exact iteB_f ⟨_, rfl⟩
                | some m =>
                  refine iteB_t (w_bin (w_bin (w_var rfl (w_ret (w_opt (at_name h1) (w_bin (w_var rfl (w_ret (w_opt (at_name h2) ?_)))))))))
                  refine w_opt (eq_str (hn _ (mark_of h1).2) (hn _ (mark_of h2).2) true) ?_
                  exact rdb (by simp)
            | none =>
              refine iteB_f (v_nx (thenO_nx (v_seq (v_if (w_bind (w_bin (w_var rfl (w_ret (w_opt (in_ns (x := w) (xs := ["same", "unlike"])) (w_opt rfl ?_)))))))))) 
              rw [nam_mem]
              cases hg : namR w with
              | some f =>
                have e1 : threeD xs w c e = namP xs f c e := by unfold threeD; rw [hf, hg]
                rw [e1, namP_some, swO_b, swO_b]
                refine iteB_t (v_seq (v_ret (w_andV (w_own (sw_ok (xs := xs) oc) ?_))))
                array_mem_dec
                refine ⟨rfl, ?_⟩
                refine ⟨_, rfl, ?_⟩
                cases h1 : swB xs c with
                | false => exact iteB_f ⟨_, rfl⟩
                | true =>
                  refine iteB_t (w_andV (w_own (sw_ok (xs := xs) oe) ?_))
                  array_mem_dec
                  refine ⟨rfl, ?_⟩
                  refine ⟨_, rfl, ?_⟩
                  cases h2 : swB xs e with
                  | false => exact iteB_f ⟨_, rfl⟩
                  | true =>
                    rw [← swO_b] at h1 h2
                    obtain ⟨x, hx⟩ := Option.isSome_iff_exists.mp h1
                    obtain ⟨y, hy⟩ := Option.isSome_iff_exists.mp h2
                    obtain ⟨rfl, mx⟩ := swO_of hx
                    obtain ⟨rfl, my⟩ := swO_of hy
                    rw [hx, hy]
                    refine iteB_t (w_bin (w_var rfl (w_var rfl (w_opt (eq_str (hn _ mx) (hn _ my) true) ?_))))
                    exact rdb (by simp)
              | none =>
                have e1 : threeD xs w c e = none := by unfold threeD; rw [hf, hg]
                rw [e1]
                refine iteB_f ?_
                array_mem_dec
                exact ⟨_, rfl⟩
      · rw [rule_len (by omega) (by omega)]
        refine iteB_tt (by simp; omega) (iteB_t ?_)
        array_mem_dec
        exact ⟨_, rfl⟩
    · rw [rule_len (by omega) (by omega)]
      refine iteB_ff (decide_eq_false (by omega)) ?_
      array_mem_dec
      exact ⟨_, rfl⟩
end
end Fli
set_option Elab.async false
set_option linter.all false
set_option maxRecDepth 100000
set_option maxHeartbeats 1000000
namespace Fli
open PySem L2
local macro_rules | `(tactic| array_mem_dec) => `(tactic| (repeat (first | ((with_reducible change WS _ _ _); first | with_reducible refine v_seq ?_ | with_reducible refine v_nx ?_ | with_reducible refine v_ret ?_ | with_reducible refine v_retO ?_ | with_reducible refine v_if ?_ | with_reducible refine v_asg ?_ | with_reducible refine v_asgO ?_ | with_reducible refine v_asgF ?_ | with_reducible refine v_drop ?_ | with_reducible refine v_par ?_ | with_reducible refine v_par3 ?_ | with_reducible refine v_put ?_) | ((with_reducible change Wp (optM _) _ _); first | ((with_reducible show Wp (optM (blD _)) _ _); refine w_opt rfl ?_) | ((with_reducible show Wp (optM (truD _)) _ _); refine w_opt rfl ?_) | ((with_reducible refine w_eqS ?_ ?_ ?_); (first | assumption | decide +kernel); (first | assumption | decide +kernel)) | ((with_reducible refine w_tupM ?_ ?_); exact of_decide_eq_true rfl) | ((with_reducible refine w_lstM ?_ ?_); exact of_decide_eq_true rfl) | with_reducible refine w_tupM ?_ ?_ | with_reducible refine w_lstM ?_ ?_ | ((with_reducible refine w_mul ?_ ?_); first | exact Or.inl ⟨of_decide_eq_true rfl, of_decide_eq_true rfl⟩ | exact Or.inr ⟨of_decide_eq_true rfl, of_decide_eq_true rfl⟩) | ((with_reducible refine w_mod ?_ ?_); exact of_decide_eq_true rfl) | ((with_reducible refine w_div ?_ ?_); exact ⟨of_decide_eq_true rfl, of_decide_eq_true rfl⟩) | ((with_reducible refine w_pow ?_ ?_); exact ⟨of_decide_eq_true rfl, of_decide_eq_true rfl, of_decide_eq_true rfl⟩) | with_reducible refine w_mul ?_ ?_ | with_reducible refine w_div ?_ ?_ | with_reducible refine w_mod ?_ ?_ | with_reducible refine w_pow ?_ ?_ | ((with_reducible show Wp (optM _) _ _); (fail_if_success (with_reducible show Wp (optM (lenC _ _ _ _)) _ _)); (fail_if_success (with_reducible show Wp (optM (truC _ _ _ _)) _ _)); (fail_if_success (with_reducible show Wp (optM (strC _ _ _ _)) _ _)); (fail_if_success (with_reducible show Wp (optM (eqO _ _ _ _ _)) _ _)); (fail_if_success (with_reducible show Wp (optM (neO _ _ _ _ _)) _ _)); (fail_if_success (with_reducible show Wp (optM (reprD _)) _ _)); (fail_if_success (with_reducible show Wp (optM (Option.map D.bl _)) _ _)); (fail_if_success (with_reducible show Wp (optM (ownM _ _ _)) _ _)); (fail_if_success (with_reducible show Wp (optM (methO _ _ _ _ _)) _ _)); (fail_if_success (with_reducible show Wp (optM (eqD _ _ _)) _ _)); refine w_opt rfl ?_)) | ((with_reducible change Wp _ _ _); first | with_reducible refine w_bind ?_ | with_reducible refine w_bin ?_ | with_reducible refine w_binO ?_ | with_reducible refine w_ret ?_ | with_reducible refine w_ifM ?_ | with_reducible refine w_andB ?_ | with_reducible refine w_orB ?_ | with_reducible refine w_andV ?_ | with_reducible refine w_orV ?_ | with_reducible refine w_slM ?_ | with_reducible refine w_chM ?_ | ((with_reducible show Wp (mVar _) _ _); refine w_var rfl ?_) | ((with_reducible show Wp (ixN _ _) _ _); first | refine w_ixO rfl rfl ?_ | refine w_ixD rfl rfl ?_) | ((with_reducible show Wp (lenN _) _ _); refine w_lenO rfl ?_) | ((with_reducible show Wp (frzN _) _ _); first | refine w_frzO rfl ?_ | refine w_frzD rfl ?_)) | ((with_reducible change thenO _ _ _); first | with_reducible refine thenO_nx ?_ | with_reducible refine thenO_rd ?_ | with_reducible refine thenO_ro ?_) | ((with_reducible change iteB _ _ _); first | with_reducible refine iteB_t ?_ | with_reducible refine iteB_f ?_ | ((with_reducible refine iteB_tt ?_ ?_); decide +kernel) | ((with_reducible refine iteB_ff ?_ ?_); decide +kernel) | ((with_reducible refine iteB_tt ?_ ?_); assumption) | ((with_reducible refine iteB_ff ?_ ?_); assumption) | ((with_reducible show iteB _ _ _); first | refine iteB_tt rfl ?_ | refine iteB_ff rfl ?_)) | ((with_reducible show ∃ k, truD _ = some k ∧ iteB k _ _); refine ⟨_, rfl, ?_⟩) | ((with_reducible show ∃ k, cmpD _ _ _ = some (D.bl k) ∧ iteB k _ _); refine ⟨_, rfl, ?_⟩) | ((with_reducible show iteB _ _ _); first | refine iteB_tt rfl ?_ | refine iteB_ff rfl ?_) | ((with_reducible show Wp (mVar _) _ _); refine w_var rfl ?_) | ((with_reducible show Wp (ixN _ _) _ _); first | refine w_ixO rfl rfl ?_ | refine w_ixD rfl rfl ?_) | ((with_reducible show Wp (lenN _) _ _); refine w_lenO rfl ?_) | ((with_reducible show Wp (frzN _) _ _); first | refine w_frzO rfl ?_ | refine w_frzD rfl ?_) | ((with_reducible show Wp (optM _) _ _); (fail_if_success (with_reducible show Wp (optM (lenC _ _ _ _)) _ _)); (fail_if_success (with_reducible show Wp (optM (truC _ _ _ _)) _ _)); (fail_if_success (with_reducible show Wp (optM (strC _ _ _ _)) _ _)); (fail_if_success (with_reducible show Wp (optM (eqO _ _ _ _ _)) _ _)); (fail_if_success (with_reducible show Wp (optM (neO _ _ _ _ _)) _ _)); (fail_if_success (with_reducible show Wp (optM (reprD _)) _ _)); (fail_if_success (with_reducible show Wp (optM (Option.map D.bl _)) _ _)); (fail_if_success (with_reducible show Wp (optM (ownM _ _ _)) _ _)); (fail_if_success (with_reducible show Wp (optM (methO _ _ _ _ _)) _ _)); (fail_if_success (with_reducible show Wp (optM (eqD _ _ _)) _ _)); refine w_opt rfl ?_))))
/-! names, of any kind, as the program and as the law look at them -/
abbrev WD : List Str := ["be", "either", "needs", "bars", "same", "unlike"]
def lowB (c : Nat) : Bool := decide (97 ≤ c) && decide (c ≤ 122)
theorem low_letters {c : Nat} : decide (c ∈ letters.cps.toList) = lowB c := by
  have e : letters.cps.toList = List.range' 97 26 := by decide +kernel
  rw [e]
  unfold lowB
  rw [Bool.eq_iff_iff]
  simp only [List.mem_range'_1, decide_eq_true_eq, Bool.and_eq_true]
  omega
theorem in_low {c : Nat} : inD false (.str ⟨#[c]⟩) k_LETTERS = some (.bl (lowB c)) := by
  show some (D.bl !(Builtin.Str.occurrences letters ⟨#[c]⟩ 0 letters.length 1).isEmpty) = _
  rw [StrLaws.found_one, low_letters]
def namS (x : Str) : Bool := (decide (1 ≤ x.length) && decide (x.length ≤ 8)) && (!decide (x ∈ WD) && x.cps.toList.all lowB)
def nameO : D → Option Str
  | .str x => if namS x = true then some x else none
  | _ => none
theorem nameO_str {x : Str} : (nameO (.str x)).isSome = namS x := by
  show (if namS x = true then some x else none).isSome = _
  by_cases h : namS x = true <;> simp [h]
theorem nameO_of {d : D} {x : Str} (h : nameO d = some x) : d = .str x ∧ namS x = true := by
  unfold nameO at h
  split at h
  · split at h
    · cases h; exact ⟨rfl, by assumption⟩
    · cases h
  · cases h
theorem len_cps {x : Str} : x.cps.toList.length = x.length := Array.length_toList
theorem pname {d : D} (o : Ov d) : ownM 2 m_is_name [d] = some (.bl (nameO d).isSome) := by
  refine own_of ?_
  unfold m_is_name
  show WS _ [some (.d d), none] _
  refine v_seq (v_if (w_orB (w_bind (w_bind (w_bind (w_var rfl (w_opt (is_str o) (w_opt rfl (w_ret ?_)))))))))
  cases hs : strB d with
  | false =>
    have e : nameO d = none := by cases d <;> first | rfl | cases hs
    rw [e]
    refine iteB_t (iteB_t ?_)
    exact v_seq (v_ret (w_ret ⟨_, rfl⟩))
  | true =>
    obtain ⟨x, rfl⟩ := str_of hs
    obtain ⟨ok, lx⟩ := ov_str o
    rw [nameO_str]
    have l1 : x.length ≤ sizeLine := len_le (by omega)
    refine iteB_f (w_bind (w_bin (w_var rfl (w_ret (w_opt (in_ns (xs := WD)) (w_opt rfl ?_))))))
    by_cases hw : x ∈ WD
    · refine iteB_tt (decide_eq_true hw) (v_seq (v_ret (w_ret (rdb ?_))))
      unfold namS
      rw [decide_eq_true hw]
      simp
    · refine iteB_ff (decide_eq_false hw) (v_nx (thenO_nx (v_seq (v_ret (w_andV (w_chM ?_))))))
      refine w_ret (w_bind (w_bind (w_var rfl (w_bind (w_ret (w_ret (w_opt (a := .int x.length) (by show (if _ then _ else _) = _; rw [if_pos l1]) ?_)))))))
      refine ⟨decide ((1 : Int) ≤ x.length), rfl, ?_⟩
      unfold namS
      rw [decide_eq_false hw]
      by_cases h1 : 1 ≤ x.length
      · refine iteB_tt (by simp; omega) (w_ret (w_opt (a := .bl (decide ((x.length : Int) ≤ 8))) rfl ?_))
        refine ⟨_, rfl, ?_⟩
        by_cases h2 : x.length ≤ 8
        · refine iteB_tt (by simp; omega) ?_
          refine w_bind (w_bind (w_bind (w_cplL (w_var rfl ?_))))
          refine ⟨_, rfl, ?_⟩
          refine w_compF x.cps.toList (e := fun c => .str ⟨#[c]⟩) (p := fun _ => true) (f := fun c => .bl (lowB c)) rfl rfl (by rw [len_cps]; exact l1) ?_ ?_
          · intro c hc
            refine ⟨_, rfl, ?_⟩
            refine w_ret ⟨rfl, iteB_t ?_⟩
            exact w_bin (w_var rfl (w_ret (w_opt in_low ⟨rfl, rfl⟩)))
          rw [List.filter_eq_self.mpr fun _ _ => rfl]
          refine w_ret (w_bind (w_ret (w_ret (w_opt (all_map (p := lowB)) (rdb ?_)))))
          simp [h1, h2]
        · refine iteB_ff (by simp; omega) ?_
          have h3 : ¬ (x.length : Int) ≤ 8 := by omega
          exact rdb (by simp [h2, h3])
      · refine iteB_ff (by simp; omega) ?_
        refine ⟨_, rfl, iteB_f ?_⟩
        exact rdb (by simp [h1])
theorem a_list : ("a" : Str).cps.toList = [97] ∧ ("z" : Str).cps.toList = [122] := by decide +kernel
theorem le_a {c : Nat} : leSt (.str "a") (.str ⟨#[c]⟩) = some (.bl (decide (97 ≤ c))) := by
  show some (D.bl (!decide ((#[c] : Array Nat).toList < ("a" : Str).cps.toList))) = _
  rw [a_list.1]
  refine congrArg some (congrArg D.bl ?_)
  rw [Bool.eq_iff_iff]
  simp [List.cons_lt_cons_iff]
theorem le_z {c : Nat} : leSt (.str ⟨#[c]⟩) (.str "z") = some (.bl (decide (c ≤ 122))) := by
  show some (D.bl (!decide (("z" : Str).cps.toList < (#[c] : Array Nat).toList))) = _
  rw [a_list.2]
  refine congrArg some (congrArg D.bl ?_)
  rw [Bool.eq_iff_iff]
  simp [List.cons_lt_cons_iff]
theorem nil_eq : eqNil false (.lst []) (.lst []) = some (.bl true) := by
  obtain ⟨b, e, i⟩ := eqD_tx (neg := false) (n := 1) (x := .lst []) (y := .lst []) (by decide) rfl rfl
  obtain rfl := i.mpr rfl
  exact e
theorem lname {d : D} (o : Ov d) : ownM 2 m__law_is_name [d] = some (.bl (nameO d).isSome) := by
  refine own_of ?_
  unfold m__law_is_name
  show WS _ [some (.d d), none] _
  refine v_seq (v_if (w_orB (w_bind (w_bind (w_bind (w_var rfl (w_opt (is_str o) (w_opt rfl (w_ret ?_)))))))))
  cases hs : strB d with
  | false =>
    have e : nameO d = none := by cases d <;> first | rfl | cases hs
    rw [e]
    refine iteB_t (iteB_t ?_)
    exact v_seq (v_ret (w_ret ⟨_, rfl⟩))
  | true =>
    obtain ⟨x, rfl⟩ := str_of hs
    obtain ⟨ok, lx⟩ := ov_str o
    rw [nameO_str]
    have l1 : x.length ≤ sizeLine := len_le (by omega)
    refine iteB_f (w_bind (w_bind (w_chM ?_)))
    refine w_ret (w_bind (w_bind (w_var rfl (w_bind (w_ret (w_ret (w_opt (a := .int x.length) (by show (if _ then _ else _) = _; rw [if_pos l1]) ?_)))))))
    refine ⟨decide ((0 : Int) < x.length), rfl, ?_⟩
    unfold namS
    by_cases h1 : 1 ≤ x.length
    · refine iteB_tt (by simp; omega) (w_ret (w_opt (a := .bl (decide ((x.length : Int) < 9))) rfl (w_opt rfl (w_ret ?_))))
      by_cases h2 : x.length ≤ 8
      · refine iteB_ff (by simp; omega) (v_nx (thenO_nx (v_seq (v_if (w_bind (w_bin ?_))))))
        array_mem_dec
        have nn : (false ^^ inV (.str x) (WD.map V.str)) = decide (x ∈ WD) := by rw [inV_map, Bool.false_xor]
        by_cases hw : x ∈ WD
        · refine iteB_tt (nn.trans (decide_eq_true hw)) (v_seq (v_ret (w_ret (rdb ?_))))
          rw [decide_eq_true hw]
          simp
        · refine iteB_ff (nn.trans (decide_eq_false hw)) (v_nx (thenO_nx (v_seq (v_ret (w_bin (w_bind (w_cplL (w_var rfl ?_))))))))
          rw [decide_eq_false hw]
          refine ⟨_, rfl, ?_⟩
          refine w_compF x.cps.toList (e := fun c => .str ⟨#[c]⟩) (p := fun c => !lowB c) (f := fun c => .str ⟨#[c]⟩) rfl rfl (by rw [len_cps]; exact l1) ?_ ?_
          · intro c hc
            refine ⟨_, rfl, ?_⟩
            refine w_bind (w_bind (w_chM (w_ret (w_var rfl ⟨_, le_a, ?_⟩))))
            unfold lowB
            cases h3 : decide (97 ≤ c) with
            | true =>
              refine iteB_t (w_ret (w_opt le_z (w_opt rfl (w_ret ⟨rfl, ?_⟩))))
              cases h4 : decide (c ≤ 122) with
              | true => exact iteB_f rfl
              | false => exact iteB_t (w_var rfl ⟨rfl, rfl⟩)
            | false => exact iteB_f (w_opt rfl (w_ret ⟨rfl, iteB_t (w_var rfl ⟨rfl, rfl⟩)⟩))
          refine w_ret ?_
          array_mem_dec
          have nx : (x.cps.toList.filter fun c => !lowB c) = [] ↔ x.cps.toList.all lowB = true := by
            rw [List.filter_eq_nil_iff, List.all_eq_true]
            simp
          cases hf : x.cps.toList.filter fun c => !lowB c with
          | nil =>
            refine w_opt nil_eq ?_
            exact rdb (by rw [nx.mp hf]; simp [h1, h2])
          | cons c cs =>
            refine w_opt (a := .bl false) rfl ?_
            have ha : x.cps.toList.all lowB = false := by
              rw [Bool.eq_false_iff]
              intro z
              rw [nx.mpr z] at hf
              cases hf
            exact rdb (by rw [ha]; simp)
      · refine iteB_tt (by simp; omega) (v_seq (v_ret (w_ret (rdb ?_))))
        simp [h2]
    · refine iteB_ff (by simp; omega) ?_
      refine w_opt rfl (w_ret (iteB_t (v_seq (v_ret (w_ret (rdb ?_))))))
      simp [h1]
theorem nam_ok {x : Str} (h : namS x = true) : PyData.strOk x = true := by
  unfold namS at h
  simp only [Bool.and_eq_true, List.all_eq_true] at h
  unfold PyData.strOk
  rw [Array.all_eq_true']
  intro c hc
  have := h.2.2 c (by simpa using hc)
  unfold lowB at this
  simp only [Bool.and_eq_true, decide_eq_true_eq] at this
  simp only [decide_eq_true_eq]
  omega
end Fli
set_option Elab.async false
set_option linter.all false
set_option maxRecDepth 100000
set_option maxHeartbeats 1000000
namespace Fli
open PySem L2
local macro_rules | `(tactic| array_mem_dec) => `(tactic| (repeat (first | ((with_reducible change WS _ _ _); first | with_reducible refine v_seq ?_ | with_reducible refine v_nx ?_ | with_reducible refine v_ret ?_ | with_reducible refine v_retO ?_ | with_reducible refine v_if ?_ | with_reducible refine v_asg ?_ | with_reducible refine v_asgO ?_ | with_reducible refine v_asgF ?_ | with_reducible refine v_drop ?_ | with_reducible refine v_par ?_ | with_reducible refine v_par3 ?_ | with_reducible refine v_put ?_) | ((with_reducible change Wp (optM _) _ _); first | ((with_reducible show Wp (optM (blD _)) _ _); refine w_opt rfl ?_) | ((with_reducible show Wp (optM (truD _)) _ _); refine w_opt rfl ?_) | ((with_reducible refine w_eqS ?_ ?_ ?_); (first | assumption | decide +kernel); (first | assumption | decide +kernel)) | ((with_reducible refine w_tupM ?_ ?_); exact of_decide_eq_true rfl) | ((with_reducible refine w_lstM ?_ ?_); exact of_decide_eq_true rfl) | with_reducible refine w_tupM ?_ ?_ | with_reducible refine w_lstM ?_ ?_ | ((with_reducible refine w_mul ?_ ?_); first | exact Or.inl ⟨of_decide_eq_true rfl, of_decide_eq_true rfl⟩ | exact Or.inr ⟨of_decide_eq_true rfl, of_decide_eq_true rfl⟩) | ((with_reducible refine w_mod ?_ ?_); exact of_decide_eq_true rfl) | ((with_reducible refine w_div ?_ ?_); exact ⟨of_decide_eq_true rfl, of_decide_eq_true rfl⟩) | ((with_reducible refine w_pow ?_ ?_); exact ⟨of_decide_eq_true rfl, of_decide_eq_true rfl, of_decide_eq_true rfl⟩) | with_reducible refine w_mul ?_ ?_ | with_reducible refine w_div ?_ ?_ | with_reducible refine w_mod ?_ ?_ | with_reducible refine w_pow ?_ ?_ | ((with_reducible show Wp (optM _) _ _); (fail_if_success (with_reducible show Wp (optM (lenC _ _ _ _)) _ _)); (fail_if_success (with_reducible show Wp (optM (truC _ _ _ _)) _ _)); (fail_if_success (with_reducible show Wp (optM (strC _ _ _ _)) _ _)); (fail_if_success (with_reducible show Wp (optM (eqO _ _ _ _ _)) _ _)); (fail_if_success (with_reducible show Wp (optM (neO _ _ _ _ _)) _ _)); (fail_if_success (with_reducible show Wp (optM (reprD _)) _ _)); (fail_if_success (with_reducible show Wp (optM (Option.map D.bl _)) _ _)); (fail_if_success (with_reducible show Wp (optM (ownM _ _ _)) _ _)); (fail_if_success (with_reducible show Wp (optM (methO _ _ _ _ _)) _ _)); (fail_if_success (with_reducible show Wp (optM (eqD _ _ _)) _ _)); refine w_opt rfl ?_)) | ((with_reducible change Wp _ _ _); first | with_reducible refine w_bind ?_ | with_reducible refine w_bin ?_ | with_reducible refine w_binO ?_ | with_reducible refine w_ret ?_ | with_reducible refine w_ifM ?_ | with_reducible refine w_andB ?_ | with_reducible refine w_orB ?_ | with_reducible refine w_andV ?_ | with_reducible refine w_orV ?_ | with_reducible refine w_slM ?_ | with_reducible refine w_chM ?_ | ((with_reducible show Wp (mVar _) _ _); refine w_var rfl ?_) | ((with_reducible show Wp (ixN _ _) _ _); first | refine w_ixO rfl rfl ?_ | refine w_ixD rfl rfl ?_) | ((with_reducible show Wp (lenN _) _ _); refine w_lenO rfl ?_) | ((with_reducible show Wp (frzN _) _ _); first | refine w_frzO rfl ?_ | refine w_frzD rfl ?_)) | ((with_reducible change thenO _ _ _); first | with_reducible refine thenO_nx ?_ | with_reducible refine thenO_rd ?_ | with_reducible refine thenO_ro ?_) | ((with_reducible change iteB _ _ _); first | with_reducible refine iteB_t ?_ | with_reducible refine iteB_f ?_ | ((with_reducible refine iteB_tt ?_ ?_); decide +kernel) | ((with_reducible refine iteB_ff ?_ ?_); decide +kernel) | ((with_reducible refine iteB_tt ?_ ?_); assumption) | ((with_reducible refine iteB_ff ?_ ?_); assumption) | ((with_reducible show iteB _ _ _); first | refine iteB_tt rfl ?_ | refine iteB_ff rfl ?_)) | ((with_reducible show ∃ k, truD _ = some k ∧ iteB k _ _); refine ⟨_, rfl, ?_⟩) | ((with_reducible show ∃ k, cmpD _ _ _ = some (D.bl k) ∧ iteB k _ _); refine ⟨_, rfl, ?_⟩) | ((with_reducible show iteB _ _ _); first | refine iteB_tt rfl ?_ | refine iteB_ff rfl ?_) | ((with_reducible show Wp (mVar _) _ _); refine w_var rfl ?_) | ((with_reducible show Wp (ixN _ _) _ _); first | refine w_ixO rfl rfl ?_ | refine w_ixD rfl rfl ?_) | ((with_reducible show Wp (lenN _) _ _); refine w_lenO rfl ?_) | ((with_reducible show Wp (frzN _) _ _); first | refine w_frzO rfl ?_ | refine w_frzD rfl ?_) | ((with_reducible show Wp (optM _) _ _); (fail_if_success (with_reducible show Wp (optM (lenC _ _ _ _)) _ _)); (fail_if_success (with_reducible show Wp (optM (truC _ _ _ _)) _ _)); (fail_if_success (with_reducible show Wp (optM (strC _ _ _ _)) _ _)); (fail_if_success (with_reducible show Wp (optM (eqO _ _ _ _ _)) _ _)); (fail_if_success (with_reducible show Wp (optM (neO _ _ _ _ _)) _ _)); (fail_if_success (with_reducible show Wp (optM (reprD _)) _ _)); (fail_if_success (with_reducible show Wp (optM (Option.map D.bl _)) _ _)); (fail_if_success (with_reducible show Wp (optM (ownM _ _ _)) _ _)); (fail_if_success (with_reducible show Wp (optM (methO _ _ _ _ _)) _ _)); (fail_if_success (with_reducible show Wp (optM (eqD _ _ _)) _ _)); refine w_opt rfl ?_))))
/-! literals and rules, of any kind, as the law looks at them -/
section
variable {xs : List Str} {l m : Lit}
theorem llit {d : D} (o : Ov d) : ownM 2 m__law_is_literal [d, nsD xs] = some (.bl (markD xs d).isSome) := by
  refine own_of ?_
  unfold m__law_is_literal
  refine v_seq (v_if (w_orB (w_bind (w_bind (w_bind (w_var rfl (w_opt (is_tup o) (w_opt rfl (w_ret ?_)))))))))
  cases ht : tupB d with
  | false =>
    rw [mark_no ht]
    refine iteB_t (iteB_t ?_)
    exact v_seq (v_ret (w_ret ⟨_, rfl⟩))
  | true =>
    obtain ⟨ds, rfl⟩ := tup_of ht
    refine iteB_f ?_
    array_mem_dec
    refine w_opt (eq_int _ _ _) ?_
    array_mem_dec
    by_cases l2 : ds.length = 2
    · obtain ⟨a, c, rfl⟩ := two_of l2
      have oa := o.mem a (by simp)
      have oc := o.mem c (by simp)
      refine iteB_ff (by simp) (v_nx (thenO_nx (v_seq (v_if (w_orB (w_bind (w_bind (w_bind (w_bin (w_var rfl (w_ret (w_opt (a := a) rfl (w_opt (is_str oa) (w_opt rfl (w_ret ?_)))))))))))))))
      cases hs : strB a with
      | false =>
        rw [mark_two (by rw [hs]; rfl)]
        exact iteB_t (iteB_t (v_seq (v_ret (w_ret ⟨_, rfl⟩))))
      | true =>
        refine iteB_f (w_bind (w_bind (w_bind (w_bin (w_var rfl (w_ret (w_opt (a := c) rfl (w_opt (is_str oc) (w_opt rfl (w_ret ?_))))))))))
        cases hc : strB c with
        | false =>
          rw [mark_two (by rw [hs, hc]; rfl)]
          exact iteB_t (v_seq (v_ret (w_ret ⟨_, rfl⟩)))
        | true =>
          obtain ⟨x, rfl⟩ := str_of hs
          obtain ⟨s, rfl⟩ := str_of hc
          refine iteB_f (v_nx (thenO_nx (v_seq (v_ret (w_andV (w_bin (w_bin (w_var rfl (w_ret (w_opt (a := D.str x) rfl (w_var rfl (w_opt in_ns ?_)))))))))))) 
          refine ⟨_, rfl, ?_⟩
          rw [mark_both]
          show iteB (decide (x ∈ xs)) _ _
          show iteB (decide (x ∈ xs)) _ _
          cases hx : decide (x ∈ xs) with
          | false => exact iteB_f (rdb (by show false = (decide (x ∈ xs) && _); rw [hx]; rfl))
          | true =>
            refine iteB_t (w_bin (w_bin (w_var rfl (w_ret (w_opt (a := D.str s) rfl ?_)))))
            array_mem_dec
            refine ⟨_, congrArg (fun d => Out.rd d _) ((Option.some.inj (in_sg (s := s)).2).trans (congrArg D.bl ?_))⟩
            show _ = (decide (x ∈ xs) && (sigO s).isSome)
            rw [hx, Bool.true_and]
    · rw [mark_len l2]
      refine iteB_tt (by simp; omega) ?_
      exact v_seq (v_ret (w_ret ⟨_, rfl⟩))
theorem eq_nilT {ds : List D} : eqNilT false (.tup ds) (.tup []) = some (.bl ds.isEmpty) := by
  show some (D.bl (false ^^ ds.isEmpty)) = _
  rw [Bool.false_xor]
theorem lrule (hn : ∀ x ∈ xs, PyData.strOk x = true) {d : D} (o : Ov d) : ownM 3 m__law_is_rule [d, nsD xs] = some (.bl (ruleD xs d).isSome) := by
  refine own_of ?_
  unfold m__law_is_rule
  show WS _ [some (.d d), some (.d (nsD xs)), none] _
  refine v_seq (v_if (w_orB (w_bind (w_bind (w_bind (w_var rfl (w_opt (is_tup o) (w_opt rfl (w_ret ?_)))))))))
  cases ht : tupB d with
  | false =>
    rw [rule_no ht]
    exact iteB_t (iteB_t (v_seq (v_ret (w_ret ⟨_, rfl⟩))))
  | true =>
    obtain ⟨ds, rfl⟩ := tup_of ht
    refine iteB_f (w_orB (w_bind (w_bin (w_var rfl (w_bind (w_ret (w_opt (a := D.tup []) rfl (w_opt eq_nilT (w_opt rfl ?_)))))))))
    match ds, o with
    | [], _ => exact iteB_t (iteB_t (v_seq (v_ret (w_ret ⟨_, rfl⟩))))
    | a :: es, o =>
      have oa := o.mem a (by simp)
      refine iteB_f (w_bind (w_bind (w_bind (w_bin (w_var rfl (w_ret (w_opt (a := a) (at0T (l := es)) (w_opt (is_str oa) (w_opt rfl (w_ret ?_))))))))))
      cases hs : strB a with
      | false =>
        rw [rule_head hs]
        exact iteB_t (v_seq (v_ret (w_ret ⟨_, rfl⟩)))
      | true =>
        obtain ⟨w, rfl⟩ := str_of hs
        have ow := (ov_str oa).1
        refine iteB_f (v_nx (thenO_nx (v_seq (v_if (w_bind (w_bin (w_bin (w_var rfl (w_ret (w_opt (a := D.str w) (at0T (l := es)) (w_ret (w_opt (eq_str ow (by decide +kernel) false) (w_opt rfl ?_)))))))))))))
        rw [Bool.false_xor]
        by_cases hw : w = "be"
        · rw [decide_eq_true hw]
          refine iteB_t (v_seq (v_ret (w_andV (w_bin ?_))))
          array_mem_dec
          refine w_opt (eq_int _ _ _) ?_
          refine ⟨_, rfl, ?_⟩
          match es with
          | [] => exact iteB_ff rfl (rdb rfl)
          | [c] =>
            have oc := o.mem c (by simp)
            have er : ruleD xs (.tup [.str w, c]) = (markD xs c).map .be := if_pos hw
            rw [er, Option.isSome_map]
            refine iteB_tt rfl ?_
            refine w_own (llit (xs := xs) oc) ?_
            array_mem_dec
            refine ⟨rfl, ?_⟩
            exact ⟨_, rfl⟩
          | c :: e :: es =>
            have er : ruleD xs (.tup (.str w :: c :: e :: es)) = none := by
              cases es with
              | nil => show threeD xs w c e = none; rw [hw, be_none]
              | cons z zs => exact rule_len (by simp) (by simp)
            rw [er]
            refine iteB_ff (by simp only [List.length_cons]; rw [Bool.false_xor]; exact beq_eq_false_iff_ne.mpr (by omega)) ?_
            exact rdb (by simp only [List.length_cons]; rw [Bool.false_xor]; exact beq_eq_false_iff_ne.mpr (by omega))
        · rw [decide_eq_false hw]
          refine iteB_f (v_nx (thenO_nx (v_seq (v_if (w_orB (w_bind (w_bin ?_)))))))
          array_mem_dec
          refine w_opt (eq_int _ _ _) (w_opt rfl ?_)
          match es, o with
          | [], _ =>
            refine iteB_tt rfl (iteB_t (v_seq (v_ret (w_ret ⟨_, rfl⟩))))
          | [c], _ =>
            have er : ruleD xs (.tup [.str w, c]) = none := if_neg hw
            rw [er]
            exact iteB_tt rfl (iteB_t (v_seq (v_ret (w_ret ⟨_, rfl⟩))))
          | c :: e :: z :: es, _ =>
            rw [rule_len (by simp) (by simp)]
            refine iteB_tt (by simp only [List.length_cons]; rw [Bool.true_xor, Bool.not_eq_true']; exact beq_eq_false_iff_ne.mpr (by omega)) ?_
            exact iteB_t (v_seq (v_ret (w_ret ⟨_, rfl⟩)))
          | [c, e], o =>
            have er : ruleD xs (.tup [.str w, c, e]) = threeD xs w c e := rfl
            rw [er]
            have oc := o.mem c (by simp)
            have oe := o.mem e (by simp)
            refine iteB_ff rfl (w_bind (w_bin (w_bin (w_var rfl (w_ret (w_opt (a := D.str w) rfl ?_))))))
            array_mem_dec
            have five : decide (w ∈ (["either", "needs", "bars", "same", "unlike"] : List Str)) = ((litR w).isSome || (namR w).isSome) := by
              rw [← lit_mem, ← nam_mem, Bool.eq_iff_iff]
              simp only [Bool.or_eq_true, decide_eq_true_eq, List.mem_cons, List.not_mem_nil, or_false]
              constructor
              · rintro (h | h | h | h | h) <;> simp [h]
              · rintro ((h | h | h) | h | h) <;> simp [h]
            have nn : (true ^^ inV (.str w) ((["either", "needs", "bars", "same", "unlike"] : List Str).map V.str)) = !((litR w).isSome || (namR w).isSome) := by rw [inV_map, five, Bool.true_xor]
            have n2 : (false ^^ inV (.str w) ((["same", "unlike"] : List Str).map V.str)) = (namR w).isSome := by rw [inV_map, Bool.false_xor]; exact nam_mem
            cases hg : namR w with
            | some f =>
              have e1 : threeD xs w c e = namP xs f c e := by unfold threeD; rw [nam_lit (by rw [hg]; rfl), hg]
              rw [e1, namP_some, swO_b, swO_b]
              refine iteB_ff (nn.trans (by rw [hg]; simp)) (v_nx (thenO_nx (v_seq (v_if (w_bind (w_bin (w_bin (w_var rfl (w_ret (w_opt (a := D.str w) rfl ?_)))))))))) 
              array_mem_dec
              refine iteB_tt (n2.trans (by rw [hg]; rfl)) (v_seq (v_if (w_orB (w_bind (w_bind (w_bind (w_bin (w_var rfl (w_ret (w_opt (a := c) rfl (w_opt (is_str oc) (w_opt rfl (w_ret ?_)))))))))))))
              cases h1 : strB c with
              | false =>
                have e2 : swB xs c = false := by cases c <;> first | rfl | cases h1
                rw [e2]
                exact iteB_t (iteB_t (v_seq (v_ret (w_ret ⟨_, rfl⟩))))
              | true =>
                obtain ⟨x, rfl⟩ := str_of h1
                refine iteB_f (w_bind (w_bind (w_bind (w_bin (w_var rfl (w_ret (w_opt (a := e) rfl (w_opt (is_str oe) (w_opt rfl (w_ret ?_))))))))))
                cases h2 : strB e with
                | false =>
                  have e2 : swB xs e = false := by cases e <;> first | rfl | cases h2
                  rw [e2, Bool.false_and, Bool.and_false]
                  exact iteB_t (v_seq (v_ret (w_ret ⟨_, rfl⟩)))
                | true =>
                  obtain ⟨y, rfl⟩ := str_of h2
                  refine iteB_f (v_nx (thenO_nx (v_seq (v_ret (w_andV (w_bin (w_bin (w_var rfl (w_ret (w_opt (a := D.str x) rfl (w_var rfl (w_opt in_ns ?_)))))))))))) 
                  refine ⟨_, rfl, ?_⟩
                  show iteB (decide (x ∈ xs)) _ _
                  have sx : swB xs (.str x) = decide (x ∈ xs) := rfl
                  have sy : swB xs (.str y) = decide (y ∈ xs) := rfl
                  rw [sx, sy]
                  by_cases hx : x ∈ xs
                  · rw [decide_eq_true hx]
                    refine iteB_t (w_andV (w_bin (w_bin (w_var rfl (w_ret (w_opt (a := D.str y) rfl (w_var rfl (w_opt in_ns ?_))))))))
                    refine ⟨_, rfl, ?_⟩
                    show iteB (decide (y ∈ xs)) _ _
                    by_cases hy : y ∈ xs
                    · rw [decide_eq_true hy]
                      refine iteB_t (w_bin (w_bin (w_var rfl (w_ret (w_opt (a := D.str x) rfl (w_bin (w_var rfl (w_ret (w_opt (a := D.str y) rfl ?_)))))))))
                      refine w_opt (eq_str (hn _ hx) (hn _ hy) true) ?_
                      have e3 : swO xs (.str x) = some x := if_pos hx
                      have e4 : swO xs (.str y) = some y := if_pos hy
                      rw [e3, e4]
                      exact rdb (by simp)
                    · rw [decide_eq_false hy]
                      exact iteB_f ⟨_, rfl⟩
                  · rw [decide_eq_false hx]
                    exact iteB_f ⟨_, rfl⟩
            | none =>
              cases hf : litR w with
              | none =>
                have e1 : threeD xs w c e = none := by unfold threeD; rw [hf, hg]
                rw [e1]
                exact iteB_tt (nn.trans (by rw [hf, hg]; rfl)) (v_seq (v_ret (w_ret ⟨_, rfl⟩))) 
              | some f =>
                have e1 : threeD xs w c e = litP xs f c e := by unfold threeD; rw [hf]
                rw [e1, litP_some]
                refine iteB_ff (nn.trans (by rw [hf]; simp)) (v_nx (thenO_nx (v_seq (v_if (w_bind (w_bin (w_bin (w_var rfl (w_ret (w_opt (a := D.str w) rfl ?_)))))))))) 
                array_mem_dec
                refine iteB_ff (n2.trans (by rw [hg]; rfl)) (v_nx (thenO_nx (v_seq (v_asg (w_andV (w_own (llit (xs := xs) oc) ?_))))))
                refine w_bind (w_bin (w_var rfl (w_ret (w_opt (a := c) rfl (w_bind (w_bind (w_var rfl (w_bind (w_ret (w_ret (w_ret ⟨rfl, ?_⟩)))))))))))
                refine ⟨_, rfl, ?_⟩
                cases h1 : markD xs c with
                | none =>
                  refine iteB_f (thenO_nx (v_seq (v_ret (w_andV (w_var rfl ⟨_, rfl, iteB_f ?_⟩)))))
                  exact ⟨_, rfl⟩
                | some l =>
                  refine iteB_t (w_own (llit (xs := xs) oe) ?_)
                  refine w_bind (w_bin (w_var rfl (w_ret (w_opt (a := e) rfl (w_bind (w_bind (w_var rfl (w_bind (w_ret (w_ret (w_ret ⟨rfl, ?_⟩)))))))))))
                  cases h2 : markD xs e with
                  | none =>
                    refine thenO_nx (v_seq (v_ret (w_andV (w_var rfl ⟨_, rfl, iteB_f ?_⟩))))
                    exact ⟨_, rfl⟩
                  | some m =>
                    refine thenO_nx (v_seq (v_ret (w_andV (w_var rfl ⟨_, rfl, iteB_t ?_⟩))))
                    refine w_bin (w_bin (w_bin (w_var rfl (w_ret (w_opt (a := c) rfl (w_ret (w_opt (at_name h1) ?_)))))))
                    refine w_bin (w_bin (w_var rfl (w_ret (w_opt (a := e) rfl (w_ret (w_opt (at_name h2) ?_))))))
                    refine w_opt (eq_str (hn _ (mark_of h1).2) (hn _ (mark_of h2).2) true) ?_
                    exact rdb (by simp)
end
end Fli
set_option Elab.async false
set_option linter.all false
set_option maxRecDepth 100000
set_option maxHeartbeats 1000000
namespace Fli
open PySem L2
local macro_rules | `(tactic| array_mem_dec) => `(tactic| (repeat (first | ((with_reducible change WS _ _ _); first | with_reducible refine v_seq ?_ | with_reducible refine v_nx ?_ | with_reducible refine v_ret ?_ | with_reducible refine v_retO ?_ | with_reducible refine v_if ?_ | with_reducible refine v_asg ?_ | with_reducible refine v_asgO ?_ | with_reducible refine v_asgF ?_ | with_reducible refine v_drop ?_ | with_reducible refine v_par ?_ | with_reducible refine v_par3 ?_ | with_reducible refine v_put ?_) | ((with_reducible change Wp (optM _) _ _); first | ((with_reducible show Wp (optM (blD _)) _ _); refine w_opt rfl ?_) | ((with_reducible show Wp (optM (truD _)) _ _); refine w_opt rfl ?_) | ((with_reducible refine w_eqS ?_ ?_ ?_); (first | assumption | decide +kernel); (first | assumption | decide +kernel)) | ((with_reducible refine w_tupM ?_ ?_); exact of_decide_eq_true rfl) | ((with_reducible refine w_lstM ?_ ?_); exact of_decide_eq_true rfl) | with_reducible refine w_tupM ?_ ?_ | with_reducible refine w_lstM ?_ ?_ | ((with_reducible refine w_mul ?_ ?_); first | exact Or.inl ⟨of_decide_eq_true rfl, of_decide_eq_true rfl⟩ | exact Or.inr ⟨of_decide_eq_true rfl, of_decide_eq_true rfl⟩) | ((with_reducible refine w_mod ?_ ?_); exact of_decide_eq_true rfl) | ((with_reducible refine w_div ?_ ?_); exact ⟨of_decide_eq_true rfl, of_decide_eq_true rfl⟩) | ((with_reducible refine w_pow ?_ ?_); exact ⟨of_decide_eq_true rfl, of_decide_eq_true rfl, of_decide_eq_true rfl⟩) | with_reducible refine w_mul ?_ ?_ | with_reducible refine w_div ?_ ?_ | with_reducible refine w_mod ?_ ?_ | with_reducible refine w_pow ?_ ?_ | ((with_reducible show Wp (optM _) _ _); (fail_if_success (with_reducible show Wp (optM (lenC _ _ _ _)) _ _)); (fail_if_success (with_reducible show Wp (optM (truC _ _ _ _)) _ _)); (fail_if_success (with_reducible show Wp (optM (strC _ _ _ _)) _ _)); (fail_if_success (with_reducible show Wp (optM (eqO _ _ _ _ _)) _ _)); (fail_if_success (with_reducible show Wp (optM (neO _ _ _ _ _)) _ _)); (fail_if_success (with_reducible show Wp (optM (reprD _)) _ _)); (fail_if_success (with_reducible show Wp (optM (Option.map D.bl _)) _ _)); (fail_if_success (with_reducible show Wp (optM (ownM _ _ _)) _ _)); (fail_if_success (with_reducible show Wp (optM (methO _ _ _ _ _)) _ _)); (fail_if_success (with_reducible show Wp (optM (eqD _ _ _)) _ _)); refine w_opt rfl ?_)) | ((with_reducible change Wp _ _ _); first | with_reducible refine w_bind ?_ | with_reducible refine w_bin ?_ | with_reducible refine w_binO ?_ | with_reducible refine w_ret ?_ | with_reducible refine w_ifM ?_ | with_reducible refine w_andB ?_ | with_reducible refine w_orB ?_ | with_reducible refine w_andV ?_ | with_reducible refine w_orV ?_ | with_reducible refine w_slM ?_ | with_reducible refine w_chM ?_ | ((with_reducible show Wp (mVar _) _ _); refine w_var rfl ?_) | ((with_reducible show Wp (ixN _ _) _ _); first | refine w_ixO rfl rfl ?_ | refine w_ixD rfl rfl ?_) | ((with_reducible show Wp (lenN _) _ _); refine w_lenO rfl ?_) | ((with_reducible show Wp (frzN _) _ _); first | refine w_frzO rfl ?_ | refine w_frzD rfl ?_)) | ((with_reducible change thenO _ _ _); first | with_reducible refine thenO_nx ?_ | with_reducible refine thenO_rd ?_ | with_reducible refine thenO_ro ?_) | ((with_reducible change iteB _ _ _); first | with_reducible refine iteB_t ?_ | with_reducible refine iteB_f ?_ | ((with_reducible refine iteB_tt ?_ ?_); decide +kernel) | ((with_reducible refine iteB_ff ?_ ?_); decide +kernel) | ((with_reducible refine iteB_tt ?_ ?_); assumption) | ((with_reducible refine iteB_ff ?_ ?_); assumption) | ((with_reducible show iteB _ _ _); first | refine iteB_tt rfl ?_ | refine iteB_ff rfl ?_)) | ((with_reducible show ∃ k, truD _ = some k ∧ iteB k _ _); refine ⟨_, rfl, ?_⟩) | ((with_reducible show ∃ k, cmpD _ _ _ = some (D.bl k) ∧ iteB k _ _); refine ⟨_, rfl, ?_⟩) | ((with_reducible show iteB _ _ _); first | refine iteB_tt rfl ?_ | refine iteB_ff rfl ?_) | ((with_reducible show Wp (mVar _) _ _); refine w_var rfl ?_) | ((with_reducible show Wp (ixN _ _) _ _); first | refine w_ixO rfl rfl ?_ | refine w_ixD rfl rfl ?_) | ((with_reducible show Wp (lenN _) _ _); refine w_lenO rfl ?_) | ((with_reducible show Wp (frzN _) _ _); first | refine w_frzO rfl ?_ | refine w_frzD rfl ?_) | ((with_reducible show Wp (optM _) _ _); (fail_if_success (with_reducible show Wp (optM (lenC _ _ _ _)) _ _)); (fail_if_success (with_reducible show Wp (optM (truC _ _ _ _)) _ _)); (fail_if_success (with_reducible show Wp (optM (strC _ _ _ _)) _ _)); (fail_if_success (with_reducible show Wp (optM (eqO _ _ _ _ _)) _ _)); (fail_if_success (with_reducible show Wp (optM (neO _ _ _ _ _)) _ _)); (fail_if_success (with_reducible show Wp (optM (reprD _)) _ _)); (fail_if_success (with_reducible show Wp (optM (Option.map D.bl _)) _ _)); (fail_if_success (with_reducible show Wp (optM (ownM _ _ _)) _ _)); (fail_if_success (with_reducible show Wp (optM (methO _ _ _ _ _)) _ _)); (fail_if_success (with_reducible show Wp (optM (eqD _ _ _)) _ _)); refine w_opt rfl ?_))))
/-! the first fault of some switches, of some rules; what the program lets out -/
/-- the first place from k on, m places, where p holds -/
def fb (p : Nat → Bool) : Nat → Nat → Option Nat
  | 0, _ => none
  | m + 1, k => if p k = true then some k else fb p m (k + 1)
def memS (x : Str) (ds : List D) : Bool := ds.any fun d => match d with
  | .str y => decide (y = x)
  | _ => false
def swp (ds : List D) (k : Nat) : Bool := decide (10 ≤ k) || match ds[k]? with
  | some d => match nameO d with
    | some x => memS x (ds.take k)
    | none => true
  | none => true
def rup (xs : List Str) (ds : List D) (k : Nat) : Bool := decide (240 ≤ k) || match ds[k]? with
  | some d => !(ruleD xs d).isSome
  | none => true
/-- all before k are names -/
def Names (ds : List D) (k : Nat) (ys : List Str) : Prop := ds.take k = ys.map D.str ∧ ∀ y ∈ ys, namS y = true
theorem memS_map {x : Str} {ys : List Str} : memS x (ys.map D.str) = decide (x ∈ ys) := by
  unfold memS
  rw [List.any_map, Bool.eq_iff_iff]
  simp
theorem Names.step {ds : List D} {k : Nat} {ys : List Str} {x : Str} (h : Names ds k ys) (e : ds[k]? = some (.str x)) (n : namS x = true) : Names ds (k + 1) (ys ++ [x]) := by
  refine ⟨?_, fun y hy => ?_⟩
  · rw [List.take_add_one, h.1, e, List.map_append]
    rfl
  · rcases List.mem_append.mp hy with hy | hy
    · exact h.2 y hy
    · rw [List.mem_singleton.mp hy]; exact n
theorem cb_of {c : M Bool} {s : S} {b : Bool} (h : Wp c s fun k s1 => k = b ∧ s1 = s) : c s = some (b, s) := by
  obtain ⟨k, s1, e, rfl, rfl⟩ := h
  exact e
section
variable {c : M Bool} {s : S} {C f : Str} {mv : M D} {v : D} {b : Bool}
abbrev rIf (c : M Bool) (C f : Str) (mv : M D) : R := ifR c (seqR (raiseR C f mv) stuckM noR) noR
abbrev mIf (c : M Bool) : MS := ifS c (seqM stuckM nxM) nxM
theorem rIf_t (e : c s = some (true, s)) (ev : mv s = some (v, s)) : rIf c C f mv s = some (⟨C, [(f, v)]⟩, s) := by
  show (c s).bind _ = _
  rw [e]
  show (match raiseR C f mv s with | some x => some x | none => _) = _
  have z : raiseR C f mv s = some (⟨C, [(f, v)]⟩, s) := by
    show (mv s).bind _ = _
    rw [ev]
    rfl
  rw [z]
theorem rIf_f (e : c s = some (false, s)) : rIf c C f mv s = none := by
  show (c s).bind _ = _
  rw [e]
  rfl
theorem mIf_f (e : c s = some (false, s)) : mIf c s = some (.nx s) := by
  show (c s).bind _ = _
  rw [e]
  rfl
theorem seqR_t {r1 r2 : R} {m : MS} {z : Exn × S} (e : r1 s = some z) : seqR r1 m r2 s = some z := by
  show (match r1 s with | some x => some x | none => _) = _
  rw [e]
theorem seqR_f {r1 r2 : R} {m : MS} {s1 : S} (e : r1 s = none) (em : m s = some (.nx s1)) : seqR r1 m r2 s = r2 s1 := by
  show (match r1 s with | some x => some x | none => _) = _
  rw [e]
  show (m s).bind _ = _
  rw [em]
  rfl
abbrev rBd (c : M Bool) (C f : Str) (mv : M D) : R := seqR (rIf c C f mv) (mIf c) noR
abbrev mBd (c : M Bool) : MS := seqM (mIf c) nxM
theorem mBd_f (e : c s = some (false, s)) : mBd c s = some (.nx s) := by
  have h : WS (mBd c) s fun o => o = .nx s := v_seq ⟨_, mIf_f e, v_nx rfl⟩
  obtain ⟨o, e1, e2⟩ := h
  rw [e1, e2]
theorem rloop_ok {asg : D → S → Option S} {Inv : List D → S → Prop} {P : D → Prop} (step : ∀ d ds s, Inv (d :: ds) s → ∃ s1, asg d s = some s1 ∧ ∃ b, c s1 = some (b, s1) ∧ (b = true → ∃ v, mv s1 = some (v, s1) ∧ P v) ∧ (b = false → Inv ds s1)) :
    ∀ (ds : List D) (s : S), Inv ds s → (∃ s', loopM asg (mBd c) ds s = some (.nx s') ∧ rloop asg (mBd c) (rBd c C f mv) ds s = none ∧ Inv [] s') ∨ ∃ v s', rloop asg (mBd c) (rBd c C f mv) ds s = some (⟨C, [(f, v)]⟩, s') ∧ P v
  | [], s, h => .inl ⟨s, rfl, rfl, h⟩
  | d :: ds, s, h => by
    obtain ⟨s1, e1, b, e2, h1, h2⟩ := step d ds s h
    cases b with
    | true =>
      obtain ⟨v, ev, pv⟩ := h1 rfl
      refine .inr ⟨v, s1, ?_, pv⟩
      show (asg d s).bind _ = _
      rw [e1]
      show (match rBd c C f mv s1 with | some x => some x | none => _) = _
      have z : rBd c C f mv s1 = some (⟨C, [(f, v)]⟩, s1) := seqR_t (rIf_t e2 ev)
      rw [z]
    | false =>
      have em := mBd_f e2
      have er : rBd c C f mv s1 = none := (seqR_f (rIf_f e2) (mIf_f e2)).trans rfl
      rcases rloop_ok step ds s1 (h2 rfl) with ⟨s', q1, q2, q3⟩ | ⟨v, s', q1, q2⟩
      · refine .inl ⟨s', ?_, ?_, q3⟩
        · rw [loopM_cons, e1]
          show (mBd c s1).bind _ = _
          rw [em]
          exact q1
        · show (asg d s).bind _ = _
          rw [e1]
          show (match rBd c C f mv s1 with | some x => some x | none => _) = _
          rw [er]
          show (mBd c s1).bind _ = _
          rw [em]
          exact q2
      · refine .inr ⟨v, s', ?_, q2⟩
        show (asg d s).bind _ = _
        rw [e1]
        show (match rBd c C f mv s1 with | some x => some x | none => _) = _
        rw [er]
        show (mBd c s1).bind _ = _
        rw [em]
        exact q1
end
theorem enum_step {ds es : List D} {d : D} {k : Nat} (e : d :: es = (enumD ds).drop k) : ∃ y, ds[k]? = some y ∧ d = .tup [.int (k : Int), y] ∧ es = (enumD ds).drop (k + 1) ∧ k < ds.length := by
  have h : (enumD ds)[k]? = some d := by
    have := congrArg (fun l => l[0]?) e
    simp only [List.getElem?_cons_zero, List.getElem?_drop, Nat.add_zero] at this
    exact this.symm
  unfold enumD at h
  rw [List.getElem?_mapIdx] at h
  obtain ⟨y, hy, rfl⟩ := Option.map_eq_some_iff.mp h
  refine ⟨y, hy, rfl, ?_, (List.getElem?_eq_some_iff.mp hy).1⟩
  have := congrArg List.tail e
  rw [List.tail_drop] at this
  exact this
theorem enum_end {ds : List D} {k : Nat} (e : [] = (enumD ds).drop k) : ds.length ≤ k := by
  have := congrArg List.length e
  unfold enumD at this
  simp at this
  omega
theorem fb_step {p : Nat → Bool} {n k : Nat} (l : k < n) : fb p (n - k) k = if p k = true then some k else fb p (n - (k + 1)) (k + 1) := by
  obtain ⟨m, hm⟩ : ∃ m, n - k = m + 1 := ⟨n - k - 1, by omega⟩
  rw [hm, show n - (k + 1) = m by omega]
  rfl
abbrev cSw : M Bool := orB (bindM (mBin (cmpD fun i j => decide (j ≤ i)) (mVar 1) (retM k_MOST_SWITCHES)) fun d => optM (blD d)) (orB (bindM (bindM (callD 2 m_is_name (bindM (mVar 2) fun d => bindM (retM []) fun ds => retM (d :: ds)) []) fun d => optM (truD d)) fun k => retM !k) (bindM (mBin (inD false) (mVar 2) (slM slL (mVar 0) (retM none) (bindM (mVar 1) fun d => optM ((intD d).map some)))) fun d => optM (blD d)))
theorem swp_at {ds : List D} {k : Nat} {y : D} (e : ds[k]? = some y) : swp ds k = (decide (10 ≤ k) || match nameO y with | some x => memS x (ds.take k) | none => true) := by
  unfold swp
  rw [e]
theorem csw {ds : List D} (o : ∀ d ∈ ds, Ov d) (hl : ds.length ≤ 100000) (ne : ds ≠ []) :
    (fb (swp ds) ds.length 0 = none ∧ (∃ ys : List Str, ds = ys.map D.str ∧ ∀ y ∈ ys, namS y = true) ∧ (∃ s', m_check_switches [some (.d (.tup ds)), none, none] = some (.nx s')) ∧ r_check_switches [some (.d (.tup ds)), none, none] = none) ∨ ∃ k s', fb (swp ds) ds.length 0 = some k ∧ k ≤ 100000 ∧ r_check_switches [some (.d (.tup ds)), none, none] = some (⟨"InvalidSwitches", [("index", .int (k : Int))]⟩, s') := by
  have e0 : (orB (bindM (bindM (bindM (mVar 0) fun d => optM (isB "tuple" d)) fun d => optM (truD d)) fun k => retM !k) (bindM (mBin (eqD false) (bindM (bindM (mVar 0) fun d => bindM (retM []) fun ds => retM (d :: ds)) fun ds => optM (lenD ds)) (retM (.int 0))) fun d => optM (blD d))) [some (.d (.tup ds)), none, none] = some (false, [some (.d (.tup ds)), none, none]) := by
    refine cb_of ?_
    refine w_orB (w_bind (w_bind (w_bind (w_var rfl (w_opt rfl (w_opt rfl (w_ret (iteB_f ?_))))))))
    refine w_bind (w_bin (w_bind (w_bind (w_var rfl (w_bind (w_ret (w_ret (w_opt (a := .int ds.length) rfl (w_ret (w_opt (eq_int _ _ _) (w_opt rfl ?_)))))))))))
    refine ⟨?_, rfl⟩
    have : ds.length ≠ 0 := fun z => ne (List.length_eq_zero_iff.mp z)
    simp
    omega
  have main := rloop_ok (C := "InvalidSwitches") (f := "index") (mv := mVar 1) (P := fun v => ∃ k : Nat, fb (swp ds) ds.length 0 = some k ∧ k ≤ 100000 ∧ v = .int (k : Int)) (asg := tupF 2 (consF (setF 1) (consF (setF 2) nilF)))
    (c := cSw)
    (Inv := fun es s => ∃ (k : Nat) (t1 t2 : Option A) (ys : List Str), es = (enumD ds).drop k ∧ k ≤ ds.length ∧ Names ds k ys ∧ fb (swp ds) ds.length 0 = fb (swp ds) (ds.length - k) k ∧ s = [some (.d (.tup ds)), t1, t2]) (fun d es s => ?_) (enumD ds) [some (.d (.tup ds)), none, none] ⟨0, none, none, [], rfl, Nat.zero_le _, ⟨rfl, fun _ h => nomatch h⟩, rfl, rfl⟩
  · rcases main with ⟨s', q1, q2, k, t1, t2, ys, ek, lk, hn, hf, rfl⟩ | ⟨v, s', q1, k, hf, lk, rfl⟩
    · have hk : k = ds.length := Nat.le_antisymm lk (enum_end ek)
      refine .inl ⟨?_, ⟨ys, ?_, hn.2⟩, ⟨[some (.d (.tup ds)), t1, t2], ?_⟩, ?_⟩
      · rw [hf, hk, Nat.sub_self]
        rfl
      · have := hn.1
        rw [hk, List.take_length] at this
        exact this
      · have h : WS m_check_switches [some (.d (.tup ds)), none, none] fun o => o = .nx [some (.d (.tup ds)), t1, t2] := v_seq ⟨_, mIf_f e0, thenO_nx (v_seq (v_forE (w_var rfl ⟨_, rfl, _, q1, v_nx rfl⟩)))⟩
        obtain ⟨o, z1, z2⟩ := h
        rw [z1, z2]
      · refine (seqR_f (rIf_f e0) (mIf_f e0)).trans ?_
        refine (seqR_f (s1 := [some (.d (.tup ds)), t1, t2]) ?_ ?_).trans rfl
        · exact q2
        · have h : WS (forE (mVar 0) (consF (setF 1) (consF (setF 2) nilF)) _) [some (.d (.tup ds)), none, none] fun o => o = .nx [some (.d (.tup ds)), t1, t2] := v_forE (w_var rfl ⟨_, rfl, _, q1, rfl⟩)
          obtain ⟨o, z1, z2⟩ := h
          rw [z2] at z1
          exact z1
    · refine .inr ⟨k, s', hf, lk, ?_⟩
      refine (seqR_f (rIf_f e0) (mIf_f e0)).trans ?_
      exact seqR_t q1
  · rintro ⟨k, t1, t2, ys, e, lk, hn, hf, rfl⟩
    obtain ⟨y, ey, rfl, rfl, lk⟩ := enum_step e
    have my : y ∈ ds := List.mem_of_getElem? ey
    refine ⟨_, rfl, swp ds k, ?_, fun h => ⟨.int (k : Int), rfl, k, ?_, by omega, rfl⟩, fun h => ?_⟩
    · show cSw [some (.d (.tup ds)), some (.d (.int (k : Int))), some (.d y)] = some (swp ds k, [some (.d (.tup ds)), some (.d (.int (k : Int))), some (.d y)])
      refine cb_of ?_
      rw [swp_at ey]
      refine w_orB (w_bind (w_bin (w_var rfl (w_ret (w_opt rfl (w_opt rfl ?_))))))
      have d10 : decide ((10 : Int) ≤ (k : Int)) = decide (10 ≤ k) := by rw [Bool.eq_iff_iff]; simp only [decide_eq_true_eq]; omega
      refine iteB_by (fun z => ⟨by rw [← d10, show decide ((10 : Int) ≤ (k : Int)) = true from z]; rfl, rfl⟩) fun z => ?_
      rw [← d10, show decide ((10 : Int) ≤ (k : Int)) = false from z, Bool.false_or]
      refine w_orB (w_bind (w_bind (w_own (pname (o y my)) ?_)))
      array_mem_dec
      refine ⟨rfl, ?_⟩
      refine w_opt rfl (w_ret ?_)
      cases hy : nameO y with
      | none => exact iteB_t ⟨rfl, rfl⟩
      | some x =>
        obtain ⟨rfl, nx⟩ := nameO_of hy
        refine iteB_f (w_bind (w_bin (w_var rfl (w_slM (w_var rfl (w_ret (w_bind (w_var rfl (w_opt rfl (w_opt rfl ?_))))))))))
        refine w_opt (a := .bl (decide (x ∈ ys))) ?_ (w_opt rfl ⟨?_, rfl⟩)
        · show inD false (.str x) (.tup (cutD ds none (some (k : Int)))) = _
          rw [cut_to (by omega), hn.1]
          exact in_ns
        · show _ = memS x (ds.take k)
          rw [hn.1, memS_map]
    · rw [hf, fb_step lk, if_pos h]
    · rw [swp_at ey] at h
      cases hy : nameO y with
      | none => rw [hy, Bool.or_true] at h; cases h
      | some x =>
        obtain ⟨rfl, nx⟩ := nameO_of hy
        refine ⟨k + 1, _, _, ys ++ [x], rfl, lk, hn.step ey nx, ?_, rfl⟩
        rw [hf, fb_step lk, if_neg]
        rw [swp_at ey, h]
        simp
abbrev cRu : M Bool := orB (bindM (mBin (cmpD fun i j => decide (j ≤ i)) (mVar 2) (retM k_MOST_RULES)) fun d => optM (blD d)) (bindM (bindM (callD 5 m_is_rule (bindM (mVar 0) fun d => bindM (bindM (mVar 3) fun d => bindM (retM []) fun ds => retM (d :: ds)) fun ds => retM (d :: ds)) []) fun d => optM (truD d)) fun k => retM !k)
theorem rup_at {xs : List Str} {ds : List D} {k : Nat} {y : D} (e : ds[k]? = some y) : rup xs ds k = (decide (240 ≤ k) || !(ruleD xs y).isSome) := by
  unfold rup
  rw [e]
theorem cru {xs : List Str} {ds : List D} (hn : ∀ x ∈ xs, PyData.strOk x = true) (o : ∀ d ∈ ds, Ov d) (hl : ds.length ≤ 100000) :
    (fb (rup xs ds) ds.length 0 = none ∧ (∃ s', m_check_rules [some (.d (nsD xs)), some (.d (.tup ds)), none, none] = some (.nx s')) ∧ r_check_rules [some (.d (nsD xs)), some (.d (.tup ds)), none, none] = none) ∨ ∃ k s', fb (rup xs ds) ds.length 0 = some k ∧ k ≤ 100000 ∧ r_check_rules [some (.d (nsD xs)), some (.d (.tup ds)), none, none] = some (⟨"InvalidRules", [("index", .int (k : Int))]⟩, s') := by
  have e0 : (bindM (bindM (bindM (mVar 1) fun d => optM (isB "tuple" d)) fun d => optM (truD d)) fun k => retM !k) [some (.d (nsD xs)), some (.d (.tup ds)), none, none] = some (false, [some (.d (nsD xs)), some (.d (.tup ds)), none, none]) := rfl
  have main := rloop_ok (C := "InvalidRules") (f := "index") (mv := mVar 2) (P := fun v => ∃ k : Nat, fb (rup xs ds) ds.length 0 = some k ∧ k ≤ 100000 ∧ v = .int (k : Int)) (asg := tupF 2 (consF (setF 2) (consF (setF 3) nilF))) (c := cRu)
    (Inv := fun es s => ∃ (k : Nat) (t1 t2 : Option A), es = (enumD ds).drop k ∧ k ≤ ds.length ∧ fb (rup xs ds) ds.length 0 = fb (rup xs ds) (ds.length - k) k ∧ s = [some (.d (nsD xs)), some (.d (.tup ds)), t1, t2]) (fun d es s => ?_) (enumD ds) [some (.d (nsD xs)), some (.d (.tup ds)), none, none] ⟨0, none, none, rfl, Nat.zero_le _, rfl, rfl⟩
  · rcases main with ⟨s', q1, q2, k, t1, t2, ek, lk, hf, rfl⟩ | ⟨v, s', q1, k, hf, lk, rfl⟩
    · have hk : k = ds.length := Nat.le_antisymm lk (enum_end ek)
      refine .inl ⟨?_, ⟨[some (.d (nsD xs)), some (.d (.tup ds)), t1, t2], ?_⟩, ?_⟩
      · rw [hf, hk, Nat.sub_self]
        rfl
      · have h : WS m_check_rules [some (.d (nsD xs)), some (.d (.tup ds)), none, none] fun o => o = .nx [some (.d (nsD xs)), some (.d (.tup ds)), t1, t2] := v_seq ⟨_, mIf_f e0, thenO_nx (v_seq (v_forE (w_var rfl ⟨_, rfl, _, q1, v_nx rfl⟩)))⟩
        obtain ⟨o, z1, z2⟩ := h
        rw [z1, z2]
      · refine (seqR_f (rIf_f e0) (mIf_f e0)).trans ?_
        refine (seqR_f (s1 := [some (.d (nsD xs)), some (.d (.tup ds)), t1, t2]) ?_ ?_).trans rfl
        · exact q2
        · have h : WS (forE (mVar 1) (consF (setF 2) (consF (setF 3) nilF)) _) [some (.d (nsD xs)), some (.d (.tup ds)), none, none] fun o => o = .nx [some (.d (nsD xs)), some (.d (.tup ds)), t1, t2] := v_forE (w_var rfl ⟨_, rfl, _, q1, rfl⟩)
          obtain ⟨o, z1, z2⟩ := h
          rw [z2] at z1
          exact z1
    · refine .inr ⟨k, s', hf, lk, ?_⟩
      refine (seqR_f (rIf_f e0) (mIf_f e0)).trans ?_
      exact seqR_t q1
  · rintro ⟨k, t1, t2, e, lk, hf, rfl⟩
    obtain ⟨y, ey, rfl, rfl, lk⟩ := enum_step e
    have my : y ∈ ds := List.mem_of_getElem? ey
    refine ⟨_, rfl, rup xs ds k, ?_, fun h => ⟨.int (k : Int), rfl, k, ?_, by omega, rfl⟩, fun h => ⟨k + 1, _, _, rfl, lk, ?_, rfl⟩⟩
    · show cRu [some (.d (nsD xs)), some (.d (.tup ds)), some (.d (.int (k : Int))), some (.d y)] = some (rup xs ds k, [some (.d (nsD xs)), some (.d (.tup ds)), some (.d (.int (k : Int))), some (.d y)])
      refine cb_of ?_
      rw [rup_at ey]
      have d10 : decide ((240 : Int) ≤ (k : Int)) = decide (240 ≤ k) := by rw [Bool.eq_iff_iff]; simp only [decide_eq_true_eq]; omega
      refine w_orB (w_bind (w_bin (w_var rfl (w_ret (w_opt rfl (w_opt rfl ?_))))))
      refine iteB_by (fun z => ⟨by rw [← d10, show decide ((240 : Int) ≤ (k : Int)) = true from z]; rfl, rfl⟩) fun z => ?_
      rw [← d10, show decide ((240 : Int) ≤ (k : Int)) = false from z, Bool.false_or]
      refine w_bind (w_bind (w_own (prule hn (o y my)) ?_))
      array_mem_dec
      refine ⟨rfl, ?_⟩
      exact w_opt rfl (w_ret ⟨rfl, rfl⟩)
    · rw [hf, fb_step lk, if_pos h]
    · rw [hf, fb_step lk, if_neg (by rw [h]; simp)]
end Fli
set_option Elab.async false
set_option linter.all false
set_option maxRecDepth 100000
set_option maxHeartbeats 1000000
namespace Fli
open PySem L2
/-! what is due -/
def rowX (c z : Str) : D := .lst [.str c, .str z]
abbrev tS (k : Nat) : Str := toString (k : Int)
theorem repI {k : Nat} (h : k ≤ 100000) : reprX [.int (k : Int)] = some (.str (tS k)) ∧ strN [.int (k : Int)] = some (.str (tS k)) := by
  have e : (k : Int).natAbs.log2 < 1920 := by
    rw [Int.natAbs_natCast]
    by_cases h0 : k = 0
    · subst h0
      decide
    · refine (Nat.log2_lt h0).mpr (Nat.lt_of_le_of_lt h ?_)
      exact Nat.lt_of_lt_of_le (show 100000 < 2 ^ 17 by decide) (Nat.pow_le_pow_right (by decide) (by decide))
  exact ⟨if_pos e, if_pos e⟩
theorem rng_step {n k : Nat} {es : List D} {d : D} (e : d :: es = (rngD 0 n).drop k) : d = .int (k : Int) ∧ es = (rngD 0 n).drop (k + 1) ∧ k < n := by
  have h : (rngD 0 n)[k]? = some d := by
    have := congrArg (fun l => l[0]?) e
    simp only [List.getElem?_cons_zero, List.getElem?_drop, Nat.add_zero] at this
    exact this.symm
  have l : k < n := by
    have := (List.getElem?_eq_some_iff.mp h).1
    unfold rngD at this
    simpa using this
  unfold rngD at h
  rw [List.getElem?_map, List.getElem?_range l] at h
  have t := congrArg List.tail e
  rw [List.tail_drop] at t
  refine ⟨?_, t, l⟩
  have h2 := Option.some.inj h
  have h3 : D.int (0 + (k : Int)) = d := h2
  rw [Int.zero_add] at h3
  exact h3.symm
theorem rng_end {n k : Nat} (e : [] = (rngD 0 n).drop k) : n ≤ k := by
  have := congrArg List.length e
  unfold rngD at this
  simp at this
  omega
theorem rng_ok {n : Nat} (h : n ≤ 100000) : rng1 [.int (n : Int)] = some (rngD 0 n) := by
  have big : ∀ v : Int, 0 ≤ v → v ≤ 100000 → rng1 [.int v] = some (rngD 0 v.toNat) := fun v v0 v1 => if_pos (by unfold okR; exact decide_eq_true ⟨by omega, by omega⟩)
  rw [big n (by omega) (by omega), Int.toNat_natCast]
theorem at_nat {ds : List D} {k : Nat} {y : D} (h : ds[k]? = some y) : atD (.tup ds) (.int (k : Int)) = some y := by
  have l := (List.getElem?_eq_some_iff.mp h).1
  show atI ds (k : Int) = _
  unfold atI L2.ixN
  rw [if_pos (by omega), if_pos (by omega)]
  simpa using h
theorem len_tup {ds : List D} : lenD [.tup ds] = some (.int ds.length) := rfl
abbrev bSw : MS := (seqM (ifS (orB (bindM (mBin (eqD false) (mVar 2) (retM (.int 10))) fun d => optM (blD d)) (orB (bindM (bindM (callD 2 m__law_is_name (bindM (mBin atD (mVar 0) (mVar 2)) fun d => bindM (retM []) fun ds => retM (d :: ds)) []) fun d => optM (truD d)) fun k => retM !k) (bindM (mBin (inD false) (mBin atD (mVar 0) (mVar 2)) (slM slL (mVar 0) (retM none) (bindM (mVar 2) fun d => optM ((intD d).map some)))) fun d => optM (blD d)))) (seqM (retMS (bindM (bindM (bindM (retM (.str ("InvalidSwitches" : Str))) fun d => bindM (bindM (bindM (bindM (mVar 2) fun d => bindM (retM []) fun ds => retM (d :: ds)) fun ds => optM (strN ds)) fun d => bindM (retM []) fun ds => retM (d :: ds)) fun ds => retM (d :: ds)) fun ds => optM (lstM ds)) fun o => retM o.d))
  nxM) nxM)
  nxM)
/-- the law's walk through the switches -/
theorem due_sw {ds : List D} {b : D} (o : ∀ d ∈ ds, Ov d) (hl : ds.length ≤ 100000) {Q : Out → Prop} (hq : ∀ k s2, fb (swp ds) ds.length 0 = some k → Q (.rd (rowX "InvalidSwitches" (tS k)) s2)) (hn : ∀ t2, fb (swp ds) ds.length 0 = none → Q (.nx [some (.d (.tup ds)), some (.d b), t2])) :
    WS (loopM (setF 2) bSw (rngD 0 ds.length)) [some (.d (.tup ds)), some (.d b), none] Q := by
  refine loop_ok (inv := fun es s => ∃ (k : Nat) (t2 : Option A) (ys : List Str), es = (rngD 0 ds.length).drop k ∧ k ≤ ds.length ∧ k ≤ 10 ∧ Names ds k ys ∧ fb (swp ds) ds.length 0 = fb (swp ds) (ds.length - k) k ∧ s = [some (.d (.tup ds)), some (.d b), t2]) ?_ ?_ _ _ ⟨0, none, [], rfl, Nat.zero_le _, Nat.zero_le _, ⟨rfl, fun _ h => nomatch h⟩, rfl, rfl⟩
  · rintro d es s ⟨k, t2, ys, e, lk, l10, hn, hf, rfl⟩
    obtain ⟨rfl, rfl, lk⟩ := rng_step e
    obtain ⟨y, ey⟩ : ∃ y, ds[k]? = some y := ⟨_, List.getElem?_eq_getElem lk⟩
    have my : y ∈ ds := List.mem_of_getElem? ey
    refine ⟨_, rfl, ?_⟩
    show WS bSw [some (.d (.tup ds)), some (.d b), some (.d (.int (k : Int)))] _
    have dec : Wp (orB (bindM (mBin (eqD false) (mVar 2) (retM (.int 10))) fun d => optM (blD d)) (orB (bindM (bindM (callD 2 m__law_is_name (bindM (mBin atD (mVar 0) (mVar 2)) fun d => bindM (retM []) fun ds => retM (d :: ds)) []) fun d => optM (truD d)) fun k => retM !k) (bindM (mBin (inD false) (mBin atD (mVar 0) (mVar 2)) (slM slL (mVar 0) (retM none) (bindM (mVar 2) fun d => optM ((intD d).map some)))) fun d => optM (blD d)))) [some (.d (.tup ds)), some (.d b), some (.d (.int (k : Int)))] fun z s1 => z = swp ds k ∧ s1 = [some (.d (.tup ds)), some (.d b), some (.d (.int (k : Int)))] := by
      rw [swp_at ey]
      refine w_orB (w_bind (w_bin (w_var rfl (w_ret (w_opt (eq_int _ _ _) (w_opt rfl ?_))))))
      rw [Bool.false_xor]
      have d10 : ((k : Int) == 10) = decide (10 ≤ k) := by rw [Bool.eq_iff_iff, beq_iff_eq, decide_eq_true_eq]; omega
      rw [d10]
      cases z : decide (10 ≤ k) with
      | true => exact iteB_t ⟨rfl, rfl⟩
      | false =>
        rw [Bool.false_or]
        refine iteB_f (w_orB (w_bind (w_bind (w_own (lname (o y my)) ?_))))
        refine w_bind (w_bin (w_var rfl (w_var rfl (w_opt (at_nat ey) (w_bind (w_ret (w_ret ⟨rfl, ?_⟩)))))))
        refine w_opt rfl (w_ret ?_)
        cases hy : nameO y with
        | none => exact iteB_t ⟨rfl, rfl⟩
        | some x =>
          obtain ⟨rfl, nx⟩ := nameO_of hy
          refine iteB_f (w_bind (w_bin (w_bin (w_var rfl (w_var rfl (w_opt (at_nat ey) (w_slM (w_var rfl (w_ret (w_bind (w_var rfl (w_opt rfl (w_opt rfl ?_))))))))))))) 
          refine w_opt (a := .bl (decide (x ∈ ys))) ?_ (w_opt rfl ⟨?_, rfl⟩)
          · show inD false (.str x) (.tup (cutD ds none (some (k : Int)))) = _
            rw [cut_to (by omega), hn.1]
            exact in_ns
          · show _ = memS x (ds.take k)
            rw [hn.1, memS_map]
    refine v_seq (v_if (dec.mono ?_))
    rintro z s1 ⟨rfl, rfl⟩
    refine iteB_by (fun h => ?_) fun h => ?_
    · refine v_seq (v_ret (w_bind (w_bind (w_bind (w_ret (w_bind (w_bind (w_bind (w_bind (w_var rfl (w_bind (w_ret (w_ret (w_opt (repI (by omega)).2 ?_))))))))))))))
      refine w_bind (w_ret (w_ret (w_ret (w_opt rfl (w_ret ?_)))))
      exact hq k _ (by rw [hf, fb_step lk, if_pos h])
    · refine v_nx (thenO_nx (v_nx ?_))
      have h' := h
      rw [swp_at ey] at h'
      cases hy : nameO y with
      | none => rw [hy, Bool.or_true] at h'; cases h'
      | some x =>
        obtain ⟨rfl, nx⟩ := nameO_of hy
        have l9 : k < 10 := by
          rw [Bool.or_eq_false_iff] at h'
          have := of_decide_eq_false h'.1
          omega
        refine ⟨k + 1, _, ys ++ [x], rfl, lk, l9, hn.step ey nx, ?_, rfl⟩
        rw [hf, fb_step lk, if_neg (by rw [h]; simp)]
  · rintro s ⟨k, t2, ys, e, lk, l10, hN, hf, rfl⟩
    have hk : k = ds.length := Nat.le_antisymm lk (rng_end e)
    refine hn _ ?_
    rw [hf, hk, Nat.sub_self]
    rfl
abbrev bRu : MS := (seqM (ifS (orB (bindM (mBin (eqD false) (mVar 2) (retM (.int 240))) fun d => optM (blD d)) (bindM (bindM (callD 3 m__law_is_rule (bindM (mBin atD (mVar 1) (mVar 2)) fun d => bindM (bindM (mVar 0) fun d => bindM (retM []) fun ds => retM (d :: ds)) fun ds => retM (d :: ds)) []) fun d => optM (truD d)) fun k => retM !k)) (seqM (retMS (bindM (bindM (bindM (retM (.str ("InvalidRules" : Str))) fun d => bindM (bindM (bindM (bindM (mVar 2) fun d => bindM (retM []) fun ds => retM (d :: ds)) fun ds => optM (strN ds)) fun d => bindM (retM []) fun ds => retM (d :: ds)) fun ds => retM (d :: ds)) fun ds => optM (lstM ds)) fun o => retM o.d))
  nxM) nxM)
  nxM)
theorem due_ru {xs : List Str} {ds : List D} {t : Option A} (hx : ∀ x ∈ xs, PyData.strOk x = true) (o : ∀ d ∈ ds, Ov d) (hl : ds.length ≤ 100000) {Q : Out → Prop} (hq : ∀ k s2, fb (rup xs ds) ds.length 0 = some k → Q (.rd (rowX "InvalidRules" (tS k)) s2)) (hn : ∀ t2, fb (rup xs ds) ds.length 0 = none → Q (.nx [some (.d (nsD xs)), some (.d (.tup ds)), t2])) :
    WS (loopM (setF 2) bRu (rngD 0 ds.length)) [some (.d (nsD xs)), some (.d (.tup ds)), t] Q := by
  refine loop_ok (inv := fun es s => ∃ (k : Nat) (t2 : Option A), es = (rngD 0 ds.length).drop k ∧ k ≤ ds.length ∧ k ≤ 240 ∧ fb (rup xs ds) ds.length 0 = fb (rup xs ds) (ds.length - k) k ∧ s = [some (.d (nsD xs)), some (.d (.tup ds)), t2]) ?_ ?_ _ _ ⟨0, t, rfl, Nat.zero_le _, Nat.zero_le _, rfl, rfl⟩
  · rintro d es s ⟨k, t2, e, lk, l10, hf, rfl⟩
    obtain ⟨rfl, rfl, lk⟩ := rng_step e
    obtain ⟨y, ey⟩ : ∃ y, ds[k]? = some y := ⟨_, List.getElem?_eq_getElem lk⟩
    have my : y ∈ ds := List.mem_of_getElem? ey
    refine ⟨_, rfl, ?_⟩
    show WS bRu [some (.d (nsD xs)), some (.d (.tup ds)), some (.d (.int (k : Int)))] _
    have dec : Wp (orB (bindM (mBin (eqD false) (mVar 2) (retM (.int 240))) fun d => optM (blD d)) (bindM (bindM (callD 3 m__law_is_rule (bindM (mBin atD (mVar 1) (mVar 2)) fun d => bindM (bindM (mVar 0) fun d => bindM (retM []) fun ds => retM (d :: ds)) fun ds => retM (d :: ds)) []) fun d => optM (truD d)) fun k => retM !k)) [some (.d (nsD xs)), some (.d (.tup ds)), some (.d (.int (k : Int)))] fun z s1 => z = rup xs ds k ∧ s1 = [some (.d (nsD xs)), some (.d (.tup ds)), some (.d (.int (k : Int)))] := by
      rw [rup_at ey]
      refine w_orB (w_bind (w_bin (w_var rfl (w_ret (w_opt (eq_int _ _ _) (w_opt rfl ?_))))))
      rw [Bool.false_xor]
      have d10 : ((k : Int) == 240) = decide (240 ≤ k) := by rw [Bool.eq_iff_iff, beq_iff_eq, decide_eq_true_eq]; omega
      rw [d10]
      cases z : decide (240 ≤ k) with
      | true => exact iteB_t ⟨rfl, rfl⟩
      | false =>
        rw [Bool.false_or]
        refine iteB_f (w_bind (w_bind (w_own (lrule hx (o y my)) ?_)))
        refine w_bind (w_bin (w_var rfl (w_var rfl (w_opt (at_nat ey) (w_bind (w_bind (w_var rfl (w_bind (w_ret (w_ret (w_ret ⟨rfl, ?_⟩)))))))))))
        exact w_opt rfl (w_ret ⟨rfl, rfl⟩)
    refine v_seq (v_if (dec.mono ?_))
    rintro z s1 ⟨rfl, rfl⟩
    refine iteB_by (fun h => ?_) fun h => ?_
    · refine v_seq (v_ret (w_bind (w_bind (w_bind (w_ret (w_bind (w_bind (w_bind (w_bind (w_var rfl (w_bind (w_ret (w_ret (w_opt (repI (by omega)).2 ?_))))))))))))))
      refine w_bind (w_ret (w_ret (w_ret (w_opt rfl (w_ret ?_)))))
      exact hq k _ (by rw [hf, fb_step lk, if_pos h])
    · refine v_nx (thenO_nx (v_nx ?_))
      have l9 : k < 240 := by
        have h' := h
        rw [rup_at ey, Bool.or_eq_false_iff] at h'
        have := of_decide_eq_false h'.1
        omega
      refine ⟨k + 1, _, rfl, lk, l9, ?_, rfl⟩
      rw [hf, fb_step lk, if_neg (by rw [h]; simp)]
  · rintro s ⟨k, t2, e, lk, l10, hf, rfl⟩
    have hk : k = ds.length := Nat.le_antisymm lk (rng_end e)
    refine hn _ ?_
    rw [hf, hk, Nat.sub_self]
    rfl
end Fli
set_option Elab.async false
set_option linter.all false
set_option maxRecDepth 100000
set_option maxHeartbeats 1000000
namespace Fli
open PySem L2
local macro_rules | `(tactic| array_mem_dec) => `(tactic| (repeat (first | ((with_reducible change WS _ _ _); first | with_reducible refine v_seq ?_ | with_reducible refine v_nx ?_ | with_reducible refine v_ret ?_ | with_reducible refine v_retO ?_ | with_reducible refine v_if ?_ | with_reducible refine v_asg ?_ | with_reducible refine v_asgO ?_ | with_reducible refine v_asgF ?_ | with_reducible refine v_drop ?_ | with_reducible refine v_par ?_ | with_reducible refine v_par3 ?_ | with_reducible refine v_put ?_) | ((with_reducible change Wp (optM _) _ _); first | ((with_reducible show Wp (optM (blD _)) _ _); refine w_opt rfl ?_) | ((with_reducible show Wp (optM (truD _)) _ _); refine w_opt rfl ?_) | ((with_reducible refine w_eqS ?_ ?_ ?_); (first | assumption | decide +kernel); (first | assumption | decide +kernel)) | ((with_reducible refine w_tupM ?_ ?_); exact of_decide_eq_true rfl) | ((with_reducible refine w_lstM ?_ ?_); exact of_decide_eq_true rfl) | with_reducible refine w_tupM ?_ ?_ | with_reducible refine w_lstM ?_ ?_ | ((with_reducible refine w_mul ?_ ?_); first | exact Or.inl ⟨of_decide_eq_true rfl, of_decide_eq_true rfl⟩ | exact Or.inr ⟨of_decide_eq_true rfl, of_decide_eq_true rfl⟩) | ((with_reducible refine w_mod ?_ ?_); exact of_decide_eq_true rfl) | ((with_reducible refine w_div ?_ ?_); exact ⟨of_decide_eq_true rfl, of_decide_eq_true rfl⟩) | ((with_reducible refine w_pow ?_ ?_); exact ⟨of_decide_eq_true rfl, of_decide_eq_true rfl, of_decide_eq_true rfl⟩) | with_reducible refine w_mul ?_ ?_ | with_reducible refine w_div ?_ ?_ | with_reducible refine w_mod ?_ ?_ | with_reducible refine w_pow ?_ ?_ | ((with_reducible show Wp (optM _) _ _); (fail_if_success (with_reducible show Wp (optM (lenC _ _ _ _)) _ _)); (fail_if_success (with_reducible show Wp (optM (truC _ _ _ _)) _ _)); (fail_if_success (with_reducible show Wp (optM (strC _ _ _ _)) _ _)); (fail_if_success (with_reducible show Wp (optM (eqO _ _ _ _ _)) _ _)); (fail_if_success (with_reducible show Wp (optM (neO _ _ _ _ _)) _ _)); (fail_if_success (with_reducible show Wp (optM (reprD _)) _ _)); (fail_if_success (with_reducible show Wp (optM (Option.map D.bl _)) _ _)); (fail_if_success (with_reducible show Wp (optM (ownM _ _ _)) _ _)); (fail_if_success (with_reducible show Wp (optM (methO _ _ _ _ _)) _ _)); (fail_if_success (with_reducible show Wp (optM (eqD _ _ _)) _ _)); refine w_opt rfl ?_)) | ((with_reducible change Wp _ _ _); first | with_reducible refine w_bind ?_ | with_reducible refine w_bin ?_ | with_reducible refine w_binO ?_ | with_reducible refine w_ret ?_ | with_reducible refine w_ifM ?_ | with_reducible refine w_andB ?_ | with_reducible refine w_orB ?_ | with_reducible refine w_andV ?_ | with_reducible refine w_orV ?_ | with_reducible refine w_slM ?_ | with_reducible refine w_chM ?_ | ((with_reducible show Wp (mVar _) _ _); refine w_var rfl ?_) | ((with_reducible show Wp (ixN _ _) _ _); first | refine w_ixO rfl rfl ?_ | refine w_ixD rfl rfl ?_) | ((with_reducible show Wp (lenN _) _ _); refine w_lenO rfl ?_) | ((with_reducible show Wp (frzN _) _ _); first | refine w_frzO rfl ?_ | refine w_frzD rfl ?_)) | ((with_reducible change thenO _ _ _); first | with_reducible refine thenO_nx ?_ | with_reducible refine thenO_rd ?_ | with_reducible refine thenO_ro ?_) | ((with_reducible change iteB _ _ _); first | with_reducible refine iteB_t ?_ | with_reducible refine iteB_f ?_ | ((with_reducible refine iteB_tt ?_ ?_); decide +kernel) | ((with_reducible refine iteB_ff ?_ ?_); decide +kernel) | ((with_reducible refine iteB_tt ?_ ?_); assumption) | ((with_reducible refine iteB_ff ?_ ?_); assumption) | ((with_reducible show iteB _ _ _); first | refine iteB_tt rfl ?_ | refine iteB_ff rfl ?_)) | ((with_reducible show ∃ k, truD _ = some k ∧ iteB k _ _); refine ⟨_, rfl, ?_⟩) | ((with_reducible show ∃ k, cmpD _ _ _ = some (D.bl k) ∧ iteB k _ _); refine ⟨_, rfl, ?_⟩) | ((with_reducible show iteB _ _ _); first | refine iteB_tt rfl ?_ | refine iteB_ff rfl ?_) | ((with_reducible show Wp (mVar _) _ _); refine w_var rfl ?_) | ((with_reducible show Wp (ixN _ _) _ _); first | refine w_ixO rfl rfl ?_ | refine w_ixD rfl rfl ?_) | ((with_reducible show Wp (lenN _) _ _); refine w_lenO rfl ?_) | ((with_reducible show Wp (frzN _) _ _); first | refine w_frzO rfl ?_ | refine w_frzD rfl ?_) | ((with_reducible show Wp (optM _) _ _); (fail_if_success (with_reducible show Wp (optM (lenC _ _ _ _)) _ _)); (fail_if_success (with_reducible show Wp (optM (truC _ _ _ _)) _ _)); (fail_if_success (with_reducible show Wp (optM (strC _ _ _ _)) _ _)); (fail_if_success (with_reducible show Wp (optM (eqO _ _ _ _ _)) _ _)); (fail_if_success (with_reducible show Wp (optM (neO _ _ _ _ _)) _ _)); (fail_if_success (with_reducible show Wp (optM (reprD _)) _ _)); (fail_if_success (with_reducible show Wp (optM (Option.map D.bl _)) _ _)); (fail_if_success (with_reducible show Wp (optM (ownM _ _ _)) _ _)); (fail_if_success (with_reducible show Wp (optM (methO _ _ _ _ _)) _ _)); (fail_if_success (with_reducible show Wp (optM (eqD _ _ _)) _ _)); refine w_opt rfl ?_))))
/-! a panel made, or what is raised; what is due -/
def pno (p q : D) : List (Str × D) := [("switches", p), ("rules", q)]
abbrev s0I (a b : D) : S := [some (.own (.obj "Panel" [])), some (.d a), some (.d b)]
/-- values handed in: any, tuples not too long -/
def Vl (d : D) : Prop := Ov d ∧ ∀ ds, d = .tup ds → ds.length ≤ 100000
theorem r_sw_no {a : D} (o : Ov a) (h : tupB a = false ∨ a = .tup []) : ∃ s', r_check_switches [some (.d a), none, none] = some (⟨"InvalidSwitches", [("index", .non)]⟩, s') := by
  refine ⟨[some (.d a), none, none], ?_⟩
  have e0 : (orB (bindM (bindM (bindM (mVar 0) fun d => optM (isB "tuple" d)) fun d => optM (truD d)) fun k => retM !k) (bindM (mBin (eqD false) (bindM (bindM (mVar 0) fun d => bindM (retM []) fun ds => retM (d :: ds)) fun ds => optM (lenD ds)) (retM (.int 0))) fun d => optM (blD d))) [some (.d a), none, none] = some (true, [some (.d a), none, none]) := by
    refine cb_of (w_orB (w_bind (w_bind (w_bind (w_var rfl (w_opt (is_tup o) (w_opt rfl (w_ret ?_))))))))
    rcases h with h | rfl
    · rw [h]
      exact iteB_t ⟨rfl, rfl⟩
    · refine iteB_f (w_bind (w_bin (w_bind (w_bind (w_var rfl (w_bind (w_ret (w_ret (w_opt len_tup (w_ret (w_opt (eq_int _ _ _) (w_opt rfl ?_))))))))))))
      exact ⟨rfl, rfl⟩
  exact seqR_t (rIf_t e0 rfl)
theorem r_ru_no {a b : D} (o : Ov b) (h : tupB b = false) : ∃ s', r_check_rules [some (.d a), some (.d b), none, none] = some (⟨"InvalidRules", [("index", .non)]⟩, s') := by
  refine ⟨[some (.d a), some (.d b), none, none], ?_⟩
  have e0 : (bindM (bindM (bindM (mVar 1) fun d => optM (isB "tuple" d)) fun d => optM (truD d)) fun k => retM !k) [some (.d a), some (.d b), none, none] = some (true, [some (.d a), some (.d b), none, none]) := by
    refine cb_of (w_bind (w_bind (w_bind (w_var rfl (w_opt (is_tup o) (w_opt rfl (w_ret ?_)))))))
    rw [h]
    exact ⟨rfl, rfl⟩
  exact seqR_t (rIf_t e0 rfl)
theorem rI_sw {a b : D} {x : Exn} (h : ∃ s', r_check_switches [some (.d a), none, none] = some (x, s')) : ∃ s', r_Panel___init__ (s0I a b) = some (x, s') := by
  obtain ⟨s', e⟩ := h
  refine ⟨s0I a b, seqR_t ?_⟩
  show (r_check_switches [some (.d a), none, none]).map _ = _
  rw [e]
  rfl
theorem rI_pre {a b : D} (m : ∃ s', m_check_switches [some (.d a), none, none] = some (.nx s')) (r : r_check_switches [some (.d a), none, none] = none) : rcall 3 r_check_switches (bindM (mVar 1) fun d => bindM (retM []) fun ds => retM (d :: ds)) (s0I a b) = none ∧ dropM (callD 3 m_check_switches (bindM (mVar 1) fun d => bindM (retM []) fun ds => retM (d :: ds)) []) (s0I a b) = some (.nx (s0I a b)) := by
  obtain ⟨s', m⟩ := m
  constructor
  · show (r_check_switches [some (.d a), none, none]).map (fun z : Exn × S => (z.1, s0I a b)) = none
    rw [r]
    rfl
  · have h : WS (dropM (callD 3 m_check_switches (bindM (mVar 1) fun d => bindM (retM []) fun ds => retM (d :: ds)) [])) (s0I a b) fun o => o = .nx (s0I a b) := v_drop (w_callD (w_bind (w_var rfl (w_bind (w_ret (w_ret ⟨_, m, rfl⟩))))))
    obtain ⟨o, z1, z2⟩ := h
    rw [z1, z2]
theorem rI_ru {a b : D} {x : Exn} (m : ∃ s', m_check_switches [some (.d a), none, none] = some (.nx s')) (r : r_check_switches [some (.d a), none, none] = none) (h : ∃ s', r_check_rules [some (.d a), some (.d b), none, none] = some (x, s')) : ∃ s', r_Panel___init__ (s0I a b) = some (x, s') := by
  obtain ⟨s', e⟩ := h
  obtain ⟨r1, m1⟩ := rI_pre (b := b) m r
  refine ⟨s0I a b, (seqR_f r1 m1).trans (seqR_t ?_)⟩
  show (r_check_rules [some (.d a), some (.d b), none, none]).map _ = _
  rw [e]
  rfl
theorem rI_ok {a b : D} (m : ∃ s', m_check_switches [some (.d a), none, none] = some (.nx s')) (r : r_check_switches [some (.d a), none, none] = none) (m2 : ∃ s', m_check_rules [some (.d a), some (.d b), none, none] = some (.nx s')) (r2 : r_check_rules [some (.d a), some (.d b), none, none] = none) :
    r_Panel___init__ (s0I a b) = none ∧ mkR 3 m_Panel___init__ "Panel" [a, b] = some (.obj "Panel" (pno a b)) := by
  obtain ⟨r1, m1⟩ := rI_pre (b := b) m r
  obtain ⟨s', m2⟩ := m2
  have r3 : rcall 4 r_check_rules (bindM (mVar 1) fun d => bindM (bindM (mVar 2) fun d => bindM (retM []) fun ds => retM (d :: ds)) fun ds => retM (d :: ds)) (s0I a b) = none := by
    show (r_check_rules [some (.d a), some (.d b), none, none]).map (fun z : Exn × S => (z.1, s0I a b)) = none
    rw [r2]
    rfl
  have m3 : dropM (callD 4 m_check_rules (bindM (mVar 1) fun d => bindM (bindM (mVar 2) fun d => bindM (retM []) fun ds => retM (d :: ds)) fun ds => retM (d :: ds)) []) (s0I a b) = some (.nx (s0I a b)) := by
    have h : WS (dropM (callD 4 m_check_rules (bindM (mVar 1) fun d => bindM (bindM (mVar 2) fun d => bindM (retM []) fun ds => retM (d :: ds)) fun ds => retM (d :: ds)) [])) (s0I a b) fun o => o = .nx (s0I a b) := by
      refine v_drop (w_callD ?_)
      refine w_bind (w_var rfl (w_bind (w_bind (w_var rfl (w_bind (w_ret (w_ret (w_ret ⟨_, m2, rfl⟩))))))))
    obtain ⟨o, z1, z2⟩ := h
    rw [z1, z2]
  refine ⟨(seqR_f r1 m1).trans ((seqR_f r3 m3).trans rfl), ?_⟩
  have h : WS m_Panel___init__ (s0I a b) fun o => o = .nx [some (.own (.obj "Panel" (pno a b))), some (.d a), some (.d b)] := by
    refine v_seq ⟨_, m1, thenO_nx (v_seq ⟨_, m3, thenO_nx (v_seq (v_setF (w_var rfl ⟨_, rfl, of_decide_eq_true rfl, ?_⟩)))⟩)⟩
    refine thenO_nx (v_seq (v_setF (w_var rfl ⟨_, rfl, of_decide_eq_true rfl, thenO_nx (v_nx ?_)⟩)))
    have ne : ¬ (("switches" : Str) = "rules") := by decide +kernel
    show Out.nx [some (.own (.obj "Panel" (if ("switches" : Str) = "rules" then _ else _))), _, _] = _
    rw [if_neg ne]
    rfl
  obtain ⟨o, z1, z2⟩ := h
  subst z2
  show (m_Panel___init__ (s0I a b)).bind _ = _
  rw [z1]
  rfl
theorem len_pan {a : D} {es : List D} (l : es.length ≤ 100000) : lenC 1 m_Panel___len__ "Panel" (.ins "Panel" (pno a (.tup es))) = some (.int es.length) := by
  have ne : ¬ (("switches" : Str) = "rules") := by decide +kernel
  have n2 : ¬ (("rules" : Str) = "switches") := by decide +kernel
  have fd : fldD "Panel" "rules" (.ins "Panel" (pno a (.tup es))) = some (.tup es) := by
    show (if ("Panel" : Str) = "Panel" then List.lookup ("rules" : Str) (pno a (.tup es)) else none) = _
    rw [if_pos rfl]
    unfold pno
    have n3 : (("rules" : Str) == "switches") = false := by decide +kernel
    simp [List.lookup, n3]
  have h : ownM 1 m_Panel___len__ [.ins "Panel" (pno a (.tup es))] = some (.int es.length) := by
    refine own_of ?_
    unfold m_Panel___len__
    exact v_seq (v_ret (w_bind (w_bind (w_bind (w_var rfl (w_opt fd (w_bind (w_ret (w_ret (w_opt len_tup ⟨_, rfl⟩))))))))))
  have ic : insC "Panel" (.ins "Panel" (pno a (.tup es))) = some (.ins "Panel" (pno a (.tup es))) := by
    unfold insC
    exact if_pos rfl
  unfold lenC
  rw [ic, Option.bind_some, h, Option.bind_some]
  exact if_pos ⟨by omega, by omega⟩
theorem none_s : reprX [.non] = some (.str "None") := rfl
theorem due_no {a b : D} (o : Ov a) (h : tupB a = false ∨ a = .tup []) : ownM 3 m__law_due [a, b] = some (rowX "InvalidSwitches" "None") := by
  refine own_of ?_
  unfold m__law_due
  show WS _ [some (.d a), some (.d b), none] _
  refine v_seq (v_if (w_orB (w_bind (w_bind (w_bind (w_var rfl (w_opt (is_tup o) (w_opt rfl (w_ret ?_)))))))))
  have fin : ∀ {k : S → Prop} {Q : Out → Prop}, (∀ s2, Q (.rd (rowX "InvalidSwitches" "None") s2)) → WS (seqM (retMS (bindM (bindM (bindM (retM (.str ("InvalidSwitches" : Str))) fun d => bindM (bindM (retM (.str ("None" : Str))) fun d => bindM (retM []) fun ds => retM (d :: ds)) fun ds => retM (d :: ds)) fun ds => optM (lstM ds)) fun o => retM o.d)) nxM) [some (.d a), some (.d b), none] (thenO k Q) := fun {k Q} q => by
    refine v_seq (v_ret ?_)
    array_mem_dec
    exact q _
  rcases h with h | rfl
  · rw [h]
    exact iteB_t (iteB_t (fin fun _ => ⟨_, rfl⟩))
  · refine iteB_f (w_bind (w_bin (w_var rfl (w_bind (w_ret (w_opt (a := D.tup []) rfl (w_opt eq_nilT (w_opt rfl (iteB_t (fin fun _ => ⟨_, rfl⟩))))))))))
theorem due_rules {ds : List D} {b : D} {r : D} (o : ∀ d ∈ ds, Ov d) (ne : ds ≠ []) (hl : ds.length ≤ 100000) (ob : Ov b) (hb : tupB b = false) (hf : fb (swp ds) ds.length 0 = none) : ownM 3 m__law_due [.tup ds, b] = some (rowX "InvalidRules" "None") := by
  refine own_of ?_
  unfold m__law_due
  show WS _ [some (.d (.tup ds)), some (.d b), none] _
  refine v_seq (v_if (w_orB (w_bind (w_bind (w_bind (w_var rfl (w_opt rfl (w_opt rfl (w_ret (iteB_f ?_))))))))))
  refine w_bind (w_bin (w_var rfl (w_bind (w_ret (w_opt (a := D.tup []) rfl (w_opt eq_nilT (w_opt rfl ?_)))))))
  refine iteB_ff (by cases ds <;> simp_all) (v_nx (thenO_nx (v_seq (v_forR (w_bind (w_bind (w_bind (w_var rfl (w_bind (w_ret (w_ret (w_opt len_tup (w_bind (w_ret (w_ret ⟨_, rng_ok hl, ?_⟩)))))))))))))))
  refine due_sw o hl (fun k s2 e => by rw [hf] at e; cases e) fun t2 _ => ?_
  refine thenO_nx (v_seq (v_if (w_bind (w_bind (w_bind (w_var rfl (w_opt (is_tup ob) (w_opt rfl (w_ret ?_))))))))) 
  rw [hb]
  refine iteB_t (v_seq (v_ret ?_))
  array_mem_dec
  exact ⟨_, rfl⟩
theorem due_first {ds : List D} {b : D} {k : Nat} (o : ∀ d ∈ ds, Ov d) (ne : ds ≠ []) (hl : ds.length ≤ 100000) (hf : fb (swp ds) ds.length 0 = some k) : ownM 3 m__law_due [.tup ds, b] = some (rowX "InvalidSwitches" (tS k)) := by
  refine own_of ?_
  unfold m__law_due
  show WS _ [some (.d (.tup ds)), some (.d b), none] _
  refine v_seq (v_if (w_orB (w_bind (w_bind (w_bind (w_var rfl (w_opt rfl (w_opt rfl (w_ret (iteB_f ?_))))))))))
  refine w_bind (w_bin (w_var rfl (w_bind (w_ret (w_opt (a := D.tup []) rfl (w_opt eq_nilT (w_opt rfl ?_)))))))
  refine iteB_ff (by cases ds <;> simp_all) (v_nx (thenO_nx (v_seq (v_forR (w_bind (w_bind (w_bind (w_var rfl (w_bind (w_ret (w_ret (w_opt len_tup (w_bind (w_ret (w_ret ⟨_, rng_ok hl, ?_⟩)))))))))))))))
  exact due_sw o hl (fun k' s2 e => by rw [hf] at e; cases e; exact ⟨_, rfl⟩) fun t2 e => by rw [hf] at e; cases e
theorem due_both {xs : List Str} {es : List D} (hx : ∀ x ∈ xs, namS x = true) (ne : xs ≠ []) (lx : xs.length ≤ 100000) (o : ∀ d ∈ es, Ov d) (hl : es.length ≤ 100000) (hf : fb (swp (xs.map D.str)) (xs.map D.str).length 0 = none) :
    (∀ k, fb (rup xs es) es.length 0 = some k → ownM 3 m__law_due [nsD xs, .tup es] = some (rowX "InvalidRules" (tS k))) ∧ (fb (rup xs es) es.length 0 = none → ownM 3 m__law_due [nsD xs, .tup es] = some (.lst [.str "returned", .int (es.length : Int)])) := by
  have hx' : ∀ x ∈ xs, PyData.strOk x = true := fun x h => nam_ok (hx x h)
  have os : ∀ d ∈ xs.map D.str, Ov d := fun d hd => by
    obtain ⟨x, mx, rfl⟩ := List.mem_map.mp hd
    refine .str x ⟨hx' x mx, ?_⟩
    have := hx x mx
    unfold namS at this
    simp only [Bool.and_eq_true, decide_eq_true_eq] at this
    omega
  have start : ∀ {Q : Out → Prop}, (∀ t2, WS (seqM (ifS (bindM (bindM (bindM (mVar 1) fun d => optM (isB "tuple" d)) fun d => optM (truD d)) fun k => retM !k) (seqM (retMS (bindM (bindM (bindM (retM (.str ("InvalidRules" : Str))) fun d => bindM (bindM (retM (.str ("None" : Str))) fun d => bindM (retM []) fun ds => retM (d :: ds)) fun ds => retM (d :: ds)) fun ds => optM (lstM ds)) fun o => retM o.d))
  nxM) nxM)
  (seqM (forR (bindM (bindM (bindM (mVar 1) fun d => bindM (retM []) fun ds => retM (d :: ds)) fun ds => optM (lenD ds)) fun d => bindM (retM []) fun ds => retM (d :: ds)) rng1 (setF 2) bRu)
  (seqM (retMS (bindM (bindM (bindM (retM (.str ("returned" : Str))) fun d => bindM (bindM (bindM (bindM (mVar 1) fun d => bindM (retM []) fun ds => retM (d :: ds)) fun ds => optM (lenD ds)) fun d => bindM (retM []) fun ds => retM (d :: ds)) fun ds => retM (d :: ds)) fun ds => optM (lstM ds)) fun o => retM o.d)) nxM))) [some (.d (nsD xs)), some (.d (.tup es)), t2] Q) → WS m__law_due [some (.d (nsD xs)), some (.d (.tup es)), none] Q := fun {Q} q => by
    unfold m__law_due
    refine v_seq (v_if (w_orB (w_bind (w_bind (w_bind (w_var rfl (w_opt rfl (w_opt rfl (w_ret (iteB_f ?_))))))))))
    refine w_bind (w_bin (w_var rfl (w_bind (w_ret (w_opt (a := D.tup []) rfl (w_opt eq_nilT (w_opt rfl ?_)))))))
    refine iteB_ff (by cases xs <;> simp_all) (v_nx (thenO_nx (v_seq (v_forR (w_bind (w_bind (w_bind (w_var rfl (w_bind (w_ret (w_ret (w_opt len_tup (w_bind (w_ret (w_ret ⟨_, rng_ok (by rw [List.length_map]; exact lx), ?_⟩)))))))))))))))
    exact due_sw os (by rw [List.length_map]; exact lx) (fun k' s2 e => by rw [hf] at e; cases e) fun t2 e => thenO_nx (q t2)
  have loop : ∀ {Q : Out → Prop} {t2 : Option A}, (∀ k s2, fb (rup xs es) es.length 0 = some k → Q (.rd (rowX "InvalidRules" (tS k)) s2)) → (∀ s2, fb (rup xs es) es.length 0 = none → Q (.rd (.lst [.str "returned", .int (es.length : Int)]) s2)) → WS (seqM (ifS (bindM (bindM (bindM (mVar 1) fun d => optM (isB "tuple" d)) fun d => optM (truD d)) fun k => retM !k) (seqM (retMS (bindM (bindM (bindM (retM (.str ("InvalidRules" : Str))) fun d => bindM (bindM (retM (.str ("None" : Str))) fun d => bindM (retM []) fun ds => retM (d :: ds)) fun ds => retM (d :: ds)) fun ds => optM (lstM ds)) fun o => retM o.d))
  nxM) nxM)
  (seqM (forR (bindM (bindM (bindM (mVar 1) fun d => bindM (retM []) fun ds => retM (d :: ds)) fun ds => optM (lenD ds)) fun d => bindM (retM []) fun ds => retM (d :: ds)) rng1 (setF 2) bRu)
  (seqM (retMS (bindM (bindM (bindM (retM (.str ("returned" : Str))) fun d => bindM (bindM (bindM (bindM (mVar 1) fun d => bindM (retM []) fun ds => retM (d :: ds)) fun ds => optM (lenD ds)) fun d => bindM (retM []) fun ds => retM (d :: ds)) fun ds => retM (d :: ds)) fun ds => optM (lstM ds)) fun o => retM o.d)) nxM))) [some (.d (nsD xs)), some (.d (.tup es)), t2] Q := fun {Q t2} h1 h2 => by
    refine v_seq (v_if (w_bind (w_bind (w_bind (w_var rfl (w_opt rfl (w_opt rfl (w_ret (iteB_f (v_nx (thenO_nx ?_)))))))))))
    refine v_seq (v_forR (w_bind (w_bind (w_bind (w_var rfl (w_bind (w_ret (w_ret (w_opt len_tup (w_bind (w_ret (w_ret ⟨_, rng_ok hl, ?_⟩))))))))))))
    refine due_ru hx' o hl h1 fun t3 e => ?_
    refine thenO_nx (v_seq (v_ret ?_))
    refine w_bind (w_bind (w_bind (w_ret (w_bind (w_bind (w_bind (w_bind (w_var rfl (w_bind (w_ret (w_ret (w_opt len_tup ?_))))))))))))
    array_mem_dec
    exact h2 _ e
  refine ⟨fun k e => own_of (start fun t2 => loop (fun k' s2 e' => ?_) fun s2 e' => ?_), fun e => own_of (start fun t2 => loop (fun k' s2 e' => ?_) fun s2 e' => ⟨_, rfl⟩)⟩
  · rw [e] at e'; cases e'; exact ⟨_, rfl⟩
  · rw [e] at e'; cases e'
  · rw [e] at e'; cases e'
/-- both, at one time -/
theorem both {a b : D} (ha : Vl a) (hb : Vl b) :
    (∃ es : List D, b = .tup es ∧ es.length ≤ 100000 ∧ r_Panel___init__ (s0I a b) = none ∧ mkR 3 m_Panel___init__ "Panel" [a, b] = some (.obj "Panel" (pno a b)) ∧ ownM 3 m__law_due [a, b] = some (.lst [.str "returned", .int (es.length : Int)])) ∨
    ∃ (c : Str) (v : D) (z : Str) (s' : S), (c = "InvalidSwitches" ∨ c = "InvalidRules") ∧ reprX [v] = some (.str z) ∧ (z = "None" ∨ ∃ k, z = tS k) ∧ r_Panel___init__ (s0I a b) = some (⟨c, [("index", v)]⟩, s') ∧ ownM 3 m__law_due [a, b] = some (rowX c z) := by
  by_cases h : tupB a = false ∨ a = .tup []
  · obtain ⟨s', e⟩ := rI_sw (b := b) (r_sw_no ha.1 h)
    exact .inr ⟨_, _, _, s', .inl rfl, none_s, .inl rfl, e, due_no ha.1 h⟩
  have h1 : tupB a = true := by cases z : tupB a with | true => rfl | false => exact absurd (.inl z) h
  obtain ⟨ds, rfl⟩ := tup_of h1
  have ne : ds ≠ [] := fun z => h (.inr (by rw [z]))
  have o := ha.1.mem
  have l := ha.2 ds rfl
  rcases csw o l ne with ⟨hf, ⟨xs, rfl, hx⟩, m, r⟩ | ⟨k, s', hf, lk, r⟩
  · have hx' : ∀ x ∈ xs, PyData.strOk x = true := fun x h => nam_ok (hx x h)
    have nx : xs ≠ [] := fun z => ne (by rw [z]; rfl)
    rw [List.length_map] at l
    cases hb1 : tupB b with
    | false =>
      obtain ⟨s', e⟩ := rI_ru m r (r_ru_no (a := nsD xs) hb.1 hb1)
      exact .inr ⟨_, _, _, s', .inr rfl, none_s, .inl rfl, e, due_rules (r := .non) o ne (by rw [List.length_map]; exact l) hb.1 hb1 hf⟩
    | true =>
      obtain ⟨es, rfl⟩ := tup_of hb1
      have l2 := hb.2 es rfl
      obtain ⟨d1, d2⟩ := due_both hx nx l hb.1.mem l2 hf
      rcases cru hx' hb.1.mem l2 with ⟨hf2, m2, r2⟩ | ⟨k, s', hf2, lk, r2⟩
      · obtain ⟨q1, q2⟩ := rI_ok m r m2 r2
        exact .inl ⟨es, rfl, l2, q1, q2, d2 hf2⟩
      · obtain ⟨s', e⟩ := rI_ru m r ⟨_, r2⟩
        exact .inr ⟨_, _, _, s', .inr rfl, (repI lk).1, .inr ⟨k, rfl⟩, e, d1 k hf2⟩
  · obtain ⟨s', e⟩ := rI_sw (b := b) ⟨_, r⟩
    exact .inr ⟨_, _, _, s', .inl rfl, (repI lk).1, .inr ⟨k, rfl⟩, e, due_first o ne l hf⟩
end Fli
set_option Elab.async false
set_option linter.all false
set_option maxRecDepth 100000
set_option maxHeartbeats 2000000
namespace Fli
open PySem L2
local macro_rules | `(tactic| array_mem_dec) => `(tactic| (repeat (first | ((with_reducible change WS _ _ _); first | with_reducible refine v_seq ?_ | with_reducible refine v_nx ?_ | with_reducible refine v_ret ?_ | with_reducible refine v_retO ?_ | with_reducible refine v_if ?_ | with_reducible refine v_asg ?_ | with_reducible refine v_asgO ?_ | with_reducible refine v_asgF ?_ | with_reducible refine v_drop ?_ | with_reducible refine v_par ?_ | with_reducible refine v_par3 ?_ | with_reducible refine v_put ?_) | ((with_reducible change Wp (optM _) _ _); first | ((with_reducible show Wp (optM (blD _)) _ _); refine w_opt rfl ?_) | ((with_reducible show Wp (optM (truD _)) _ _); refine w_opt rfl ?_) | ((with_reducible refine w_eqS ?_ ?_ ?_); (first | assumption | decide +kernel); (first | assumption | decide +kernel)) | ((with_reducible refine w_tupM ?_ ?_); exact of_decide_eq_true rfl) | ((with_reducible refine w_lstM ?_ ?_); exact of_decide_eq_true rfl) | with_reducible refine w_tupM ?_ ?_ | with_reducible refine w_lstM ?_ ?_ | ((with_reducible refine w_mul ?_ ?_); first | exact Or.inl ⟨of_decide_eq_true rfl, of_decide_eq_true rfl⟩ | exact Or.inr ⟨of_decide_eq_true rfl, of_decide_eq_true rfl⟩) | ((with_reducible refine w_mod ?_ ?_); exact of_decide_eq_true rfl) | ((with_reducible refine w_div ?_ ?_); exact ⟨of_decide_eq_true rfl, of_decide_eq_true rfl⟩) | ((with_reducible refine w_pow ?_ ?_); exact ⟨of_decide_eq_true rfl, of_decide_eq_true rfl, of_decide_eq_true rfl⟩) | with_reducible refine w_mul ?_ ?_ | with_reducible refine w_div ?_ ?_ | with_reducible refine w_mod ?_ ?_ | with_reducible refine w_pow ?_ ?_ | ((with_reducible show Wp (optM _) _ _); (fail_if_success (with_reducible show Wp (optM (lenC _ _ _ _)) _ _)); (fail_if_success (with_reducible show Wp (optM (truC _ _ _ _)) _ _)); (fail_if_success (with_reducible show Wp (optM (strC _ _ _ _)) _ _)); (fail_if_success (with_reducible show Wp (optM (eqO _ _ _ _ _)) _ _)); (fail_if_success (with_reducible show Wp (optM (neO _ _ _ _ _)) _ _)); (fail_if_success (with_reducible show Wp (optM (reprD _)) _ _)); (fail_if_success (with_reducible show Wp (optM (Option.map D.bl _)) _ _)); (fail_if_success (with_reducible show Wp (optM (ownM _ _ _)) _ _)); (fail_if_success (with_reducible show Wp (optM (methO _ _ _ _ _)) _ _)); (fail_if_success (with_reducible show Wp (optM (eqD _ _ _)) _ _)); refine w_opt rfl ?_)) | ((with_reducible change Wp _ _ _); first | with_reducible refine w_bind ?_ | with_reducible refine w_bin ?_ | with_reducible refine w_binO ?_ | with_reducible refine w_ret ?_ | with_reducible refine w_ifM ?_ | with_reducible refine w_andB ?_ | with_reducible refine w_orB ?_ | with_reducible refine w_andV ?_ | with_reducible refine w_orV ?_ | with_reducible refine w_slM ?_ | with_reducible refine w_chM ?_ | ((with_reducible show Wp (mVar _) _ _); refine w_var rfl ?_) | ((with_reducible show Wp (ixN _ _) _ _); first | refine w_ixO rfl rfl ?_ | refine w_ixD rfl rfl ?_) | ((with_reducible show Wp (lenN _) _ _); refine w_lenO rfl ?_) | ((with_reducible show Wp (frzN _) _ _); first | refine w_frzO rfl ?_ | refine w_frzD rfl ?_)) | ((with_reducible change thenO _ _ _); first | with_reducible refine thenO_nx ?_ | with_reducible refine thenO_rd ?_ | with_reducible refine thenO_ro ?_) | ((with_reducible change iteB _ _ _); first | with_reducible refine iteB_t ?_ | with_reducible refine iteB_f ?_ | ((with_reducible refine iteB_tt ?_ ?_); decide +kernel) | ((with_reducible refine iteB_ff ?_ ?_); decide +kernel) | ((with_reducible refine iteB_tt ?_ ?_); assumption) | ((with_reducible refine iteB_ff ?_ ?_); assumption) | ((with_reducible show iteB _ _ _); first | refine iteB_tt rfl ?_ | refine iteB_ff rfl ?_)) | ((with_reducible show ∃ k, truD _ = some k ∧ iteB k _ _); refine ⟨_, rfl, ?_⟩) | ((with_reducible show ∃ k, cmpD _ _ _ = some (D.bl k) ∧ iteB k _ _); refine ⟨_, rfl, ?_⟩) | ((with_reducible show iteB _ _ _); first | refine iteB_tt rfl ?_ | refine iteB_ff rfl ?_) | ((with_reducible show Wp (mVar _) _ _); refine w_var rfl ?_) | ((with_reducible show Wp (ixN _ _) _ _); first | refine w_ixO rfl rfl ?_ | refine w_ixD rfl rfl ?_) | ((with_reducible show Wp (lenN _) _ _); refine w_lenO rfl ?_) | ((with_reducible show Wp (frzN _) _ _); first | refine w_frzO rfl ?_ | refine w_frzD rfl ?_) | ((with_reducible show Wp (optM _) _ _); (fail_if_success (with_reducible show Wp (optM (lenC _ _ _ _)) _ _)); (fail_if_success (with_reducible show Wp (optM (truC _ _ _ _)) _ _)); (fail_if_success (with_reducible show Wp (optM (strC _ _ _ _)) _ _)); (fail_if_success (with_reducible show Wp (optM (eqO _ _ _ _ _)) _ _)); (fail_if_success (with_reducible show Wp (optM (neO _ _ _ _ _)) _ _)); (fail_if_success (with_reducible show Wp (optM (reprD _)) _ _)); (fail_if_success (with_reducible show Wp (optM (Option.map D.bl _)) _ _)); (fail_if_success (with_reducible show Wp (optM (ownM _ _ _)) _ _)); (fail_if_success (with_reducible show Wp (optM (methO _ _ _ _ _)) _ _)); (fail_if_success (with_reducible show Wp (optM (eqD _ _ _)) _ _)); refine w_opt rfl ?_))))
/-! values that are bent -/
inductive At : D → Prop where
  | non : At .non
  | bl (b : Bool) : At (.bl b)
  | int (i : Int) : At (.int i)
  | str (x : Str) (h : PyData.strOk x = true ∧ x.length ≤ 1000) : At (.str x)
  | lst (ds : List D) : At (.lst ds)
  | dic (kvs : List (Key × D)) : At (.dic kvs)
theorem At.ov {d : D} (h : At d) : Ov d := by
  cases h with
  | non => exact .non
  | bl b => exact .bl b
  | int i => exact .int i
  | str x h => exact .str x h
  | lst ds => exact .lst ds
  | dic ds => exact .dic ds
/-- tuples of at most l, n deep -/
def Vb (l : Nat) : Nat → D → Prop
  | 0, d => At d
  | n + 1, d => At d ∨ ∃ ds, d = .tup ds ∧ ds.length ≤ l ∧ ∀ e ∈ ds, Vb l n e
theorem Vb.at {l : Nat} {d : D} (h : At d) : ∀ n, Vb l n d
  | 0 => h
  | _ + 1 => .inl h
theorem Vb.mono {l k : Nat} (lk : l ≤ k) : ∀ {n m : Nat} {d : D}, n ≤ m → Vb l n d → Vb k m d
  | 0, m, d, _, h => Vb.at h m
  | n + 1, 0, d, hm, _ => absurd hm (by omega)
  | n + 1, m + 1, d, hm, h => h.elim .inl fun ⟨ds, e, hl, hd⟩ => .inr ⟨ds, e, Nat.le_trans hl lk, fun e he => Vb.mono lk (Nat.le_of_succ_le_succ hm) (hd e he)⟩
theorem Vb.ov {l : Nat} : ∀ {n : Nat} {d : D}, Vb l n d → Ov d
  | 0, _, h => At.ov h
  | _ + 1, _, h => h.elim At.ov fun ⟨_, e, _, hd⟩ => e ▸ .tup fun d h => Vb.ov (hd d h)
theorem Vb.tup {l : Nat} {n : Nat} {ds : List D} (h : Vb l n (.tup ds)) : ∃ m, n = m + 1 ∧ ds.length ≤ l ∧ ∀ e ∈ ds, Vb l m e := by
  cases n with
  | zero => cases (show At (.tup ds) from h)
  | succ m =>
    rcases h with h | ⟨es, e, hl, hd⟩
    · cases h
    · cases e
      exact ⟨m, rfl, hl, hd⟩
theorem Vb.vl {l n : Nat} {d : D} (h : Vb l n d) (hl : l ≤ 100000) : Vl d := ⟨h.ov, fun ds e => by subst e; obtain ⟨_, _, h2, _⟩ := h.tup; omega⟩
def freshS : List Str := ["", "a", "b", "A", "x y", "abcdefghi", "be", "needs", "same", "+", "-", "+-", "either"]
theorem fresh_ok : ∀ x ∈ freshS, PyData.strOk x = true ∧ x.length ≤ 1000 := by decide +kernel
abbrev freshL : List D := [.non, .bl true, .int 0, .str "", .str "a", .str "b", .str "A", .str "x y", .str "abcdefghi", .tup [], .lst [], .dic [], .str "be", .str "needs", .str "same", .str "+", .str "-", .str "+-"] ++ [.tup [.str "be", .tup [.str "a", .str "+"]], .tup [.str "a", .str "+"], .tup [.str "a", .int 1], .lst [.str "a", .str "+"], .tup [.str "same", .str "a", .str "a"], .str "either"]
theorem fresh_vb {l : Nat} (h3 : 3 ≤ l) : ∀ d ∈ freshL, Vb l 2 d := by
  have s : ∀ {x : Str} (n : Nat), x ∈ freshS → Vb l n (.str x) := fun {x} n h => Vb.at (.str x (fresh_ok x h)) n
  have t : ∀ {n : Nat} {ds : List D}, ds.length ≤ 3 → (∀ e ∈ ds, Vb l n e) → Vb l (n + 1) (.tup ds) := fun h1 h2 => .inr ⟨_, rfl, Nat.le_trans h1 h3, h2⟩
  have sa : ∀ n, Vb l n (.str "a") := fun n => s n (by simp [freshS])
  have sp : ∀ n, Vb l n (.str "+") := fun n => s n (by simp [freshS])
  intro d hd
  simp only [List.cons_append, List.nil_append, List.mem_cons, List.not_mem_nil, or_false] at hd
  rcases hd with rfl | rfl | rfl | rfl | rfl | rfl | rfl | rfl | rfl | rfl | rfl | rfl | rfl | rfl | rfl | rfl | rfl | rfl | rfl | rfl | rfl | rfl | rfl | rfl
  · exact Vb.at .non 2
  · exact Vb.at (.bl _) 2
  · exact Vb.at (.int _) 2
  · exact s 2 (by simp [freshS])
  · exact s 2 (by simp [freshS])
  · exact s 2 (by simp [freshS])
  · exact s 2 (by simp [freshS])
  · exact s 2 (by simp [freshS])
  · exact s 2 (by simp [freshS])
  · exact t (by simp) fun e h => nomatch h
  · exact Vb.at (.lst _) 2
  · exact Vb.at (.dic _) 2
  · exact s 2 (by simp [freshS])
  · exact s 2 (by simp [freshS])
  · exact s 2 (by simp [freshS])
  · exact s 2 (by simp [freshS])
  · exact s 2 (by simp [freshS])
  · exact s 2 (by simp [freshS])
  · refine t (by simp) fun e h => ?_
    simp only [List.mem_cons, List.not_mem_nil, or_false] at h
    rcases h with rfl | rfl
    · exact s 1 (by simp [freshS])
    · refine t (by simp) fun e h => ?_
      simp only [List.mem_cons, List.not_mem_nil, or_false] at h
      rcases h with rfl | rfl
      · exact sa 0
      · exact sp 0
  · refine t (by simp) fun e h => ?_
    simp only [List.mem_cons, List.not_mem_nil, or_false] at h
    rcases h with rfl | rfl
    · exact sa 1
    · exact sp 1
  · refine t (by simp) fun e h => ?_
    simp only [List.mem_cons, List.not_mem_nil, or_false] at h
    rcases h with rfl | rfl
    · exact sa 1
    · exact Vb.at (.int _) 1
  · exact Vb.at (.lst _) 2
  · refine t (by simp) fun e h => ?_
    simp only [List.mem_cons, List.not_mem_nil, or_false] at h
    rcases h with rfl | rfl | rfl
    · exact s 1 (by simp [freshS])
    · exact sa 1
    · exact sa 1
  · exact s 2 (by simp [freshS])
abbrev bentR : MS := (seqM (asgO (bindM (bindM (retM .non) fun d => bindM (bindM (retM (.bl true)) fun d => bindM (bindM (retM (.int 0)) fun d => bindM (bindM (retM (.str ("" : Str))) fun d => bindM (bindM (retM (.str ("a" : Str))) fun d => bindM (bindM (retM (.str ("b" : Str))) fun d => bindM (bindM (retM (.str ("A" : Str))) fun d => bindM (bindM (retM (.str ("x y" : Str))) fun d => bindM (bindM (retM (.str ("abcdefghi" : Str))) fun d => bindM (bindM (bindM (retM []) fun ds => optM (tupM ds)) fun d => bindM (bindM (bindM (bindM (retM []) fun ds => optM (lstM ds)) fun o => retM o.d) fun d => bindM (bindM (bindM (fun s => some (O.dic [], s)) fun o => retM o.d) fun d => bindM (bindM (retM (.str ("be" : Str))) fun d => bindM (bindM (retM (.str ("needs" : Str))) fun d => bindM (bindM (retM (.str ("same" : Str))) fun d => bindM (bindM (retM (.str ("+" : Str))) fun d => bindM (bindM (retM (.str ("-" : Str))) fun d => bindM (bindM (retM (.str ("+-" : Str))) fun d => bindM (retM []) fun ds => retM (d :: ds)) fun ds => retM (d :: ds)) fun ds => retM (d :: ds)) fun ds => retM (d :: ds)) fun ds => retM (d :: ds)) fun ds => retM (d :: ds)) fun ds => retM (d :: ds)) fun ds => retM (d :: ds)) fun ds => retM (d :: ds)) fun ds => retM (d :: ds)) fun ds => retM (d :: ds)) fun ds => retM (d :: ds)) fun ds => retM (d :: ds)) fun ds => retM (d :: ds)) fun ds => retM (d :: ds)) fun ds => retM (d :: ds)) fun ds => retM (d :: ds)) fun ds => retM (d :: ds)) fun ds => optM (lstM ds)) 4)
  (seqM (asgM (lendD 2 m__law_one 0 (bindM (mBin addL (frzN 4) (bindM (bindM (bindM (bindM (bindM (retM (.str ("be" : Str))) fun d => bindM (bindM (bindM (bindM (retM (.str ("a" : Str))) fun d => bindM (bindM (retM (.str ("+" : Str))) fun d => bindM (retM []) fun ds => retM (d :: ds)) fun ds => retM (d :: ds)) fun ds => optM (tupM ds)) fun d => bindM (retM []) fun ds => retM (d :: ds)) fun ds => retM (d :: ds)) fun ds => optM (tupM ds)) fun d => bindM (bindM (bindM (bindM (retM (.str ("a" : Str))) fun d => bindM (bindM (retM (.str ("+" : Str))) fun d => bindM (retM []) fun ds => retM (d :: ds)) fun ds => retM (d :: ds)) fun ds => optM (tupM ds)) fun d => bindM (bindM (bindM (bindM (retM (.str ("a" : Str))) fun d => bindM (bindM (retM (.int 1)) fun d => bindM (retM []) fun ds => retM (d :: ds)) fun ds => retM (d :: ds)) fun ds => optM (tupM ds)) fun d => bindM (bindM (bindM (bindM (bindM (retM (.str ("a" : Str))) fun d => bindM (bindM (retM (.str ("+" : Str))) fun d => bindM (retM []) fun ds => retM (d :: ds)) fun ds => retM (d :: ds)) fun ds => optM (lstM ds)) fun o => retM o.d) fun d => bindM (bindM (bindM (bindM (retM (.str ("same" : Str))) fun d => bindM (bindM (retM (.str ("a" : Str))) fun d => bindM (bindM (retM (.str ("a" : Str))) fun d => bindM (retM []) fun ds => retM (d :: ds)) fun ds => retM (d :: ds)) fun ds => retM (d :: ds)) fun ds => optM (tupM ds)) fun d => bindM (bindM (retM (.str ("either" : Str))) fun d => bindM (retM []) fun ds => retM (d :: ds)) fun ds => retM (d :: ds)) fun ds => retM (d :: ds)) fun ds => retM (d :: ds)) fun ds => retM (d :: ds)) fun ds => retM (d :: ds)) fun ds => optM (lstM ds)) fun o => retM o.d)) fun d => bindM (retM []) fun ds => retM (d :: ds))) (setF 5))
  (seqM (ifS (bindM (mBin (eqD false) (mVar 3) (retM (.int 0))) fun d => optM (blD d)) (seqM (retMS (mBin addL (slM slL (mVar 1) (retM none) (bindM (mVar 2) fun d => optM ((intD d).map some))) (slM slL (mVar 1) (bindM (mBin addL (mVar 2) (retM (.int 1))) fun d => optM ((intD d).map some)) (retM none))))
  nxM) nxM)
  (seqM (retMS (ifM (bindM (mBin (eqD false) (mVar 3) (retM (.int 1))) fun d => optM (blD d)) (mBin addL (mBin addL (slM slL (mVar 1) (retM none) (bindM (mVar 2) fun d => optM ((intD d).map some))) (bindM (bindM (mVar 5) fun d => bindM (retM []) fun ds => retM (d :: ds)) fun ds => optM (tupM ds))) (slM slL (mVar 1) (bindM (mVar 2) fun d => optM ((intD d).map some)) (retM none))) (mBin addL (mBin addL (slM slL (mVar 1) (retM none) (bindM (mVar 2) fun d => optM ((intD d).map some))) (bindM (bindM (mVar 5) fun d => bindM (retM []) fun ds => retM (d :: ds)) fun ds => optM (tupM ds))) (slM slL (mVar 1) (bindM (mBin addL (mVar 2) (retM (.int 1))) fun d => optM ((intD d).map some)) (retM none)))))
  nxM))))
def bentT (m : MS) : MS := (seqM (parM 2 3 (bindM (lendD 5 m__law_draw 0 (bindM (bindM (bindM (mVar 1) fun d => bindM (retM []) fun ds => retM (d :: ds)) fun ds => optM (lenD ds)) fun d => bindM (retM []) fun ds => retM (d :: ds))) fun d => bindM (bindM (lendD 5 m__law_draw 0 (bindM (retM (.int 7)) fun d => bindM (retM []) fun ds => retM (d :: ds))) fun d => bindM (retM []) fun ds => retM (d :: ds)) fun ds => retM (d :: ds)))
  (seqM (ifS (andB (bindM (bindM (mBin atD (mVar 1) (mVar 2)) fun d => optM (isB "tuple" d)) fun d => optM (truD d)) (andB (bindM (mBin (eqNilT true) (mBin atD (mVar 1) (mVar 2)) (bindM (retM []) fun ds => optM (tupM ds))) fun d => optM (blD d)) (bindM (mBin (cmpD fun i j => decide (j < i)) (mVar 3) (retM (.int 1))) fun d => optM (blD d)))) (seqM (retMS (mBin addL (mBin addL (slM slL (mVar 1) (retM none) (bindM (mVar 2) fun d => optM ((intD d).map some))) (bindM (bindM (lendD 6 m 0 (bindM (mBin atD (mVar 1) (mVar 2)) fun d => bindM (retM []) fun ds => retM (d :: ds))) fun d => bindM (retM []) fun ds => retM (d :: ds)) fun ds => optM (tupM ds))) (slM slL (mVar 1) (bindM (mBin addL (mVar 2) (retM (.int 1))) fun d => optM ((intD d).map some)) (retM none))))
  nxM) nxM)
  bentR))
abbrev Bent (l n : Nat) (out : Out) : Prop := ∃ (es : List D) (s2 : S) (o' : O), out = .rd (.tup es) s2 ∧ firstO s2 = some o' ∧ Bag o' ∧ es.length ≤ l ∧ ∀ e ∈ es, Vb l n e
theorem adT {as bs : List D} (h : as.length + bs.length ≤ 100000) : addL (.tup as) (.tup bs) = some (.tup (as ++ bs)) := if_pos (len_le h)
theorem cut_from {ds : List D} {k : Nat} (h : k ≤ ds.length) : cutD ds (some (k : Int)) none = ds.drop k := by
  unfold cutD
  rw [HT.sIx_none, HT.sIx_nat, Nat.min_eq_left h, List.take_of_length_le (by rw [List.length_drop]; omega)]
theorem one_any {o : O} {xs : List D} (hb : Bag o) (hx : xs ≠ []) (hl : xs.length < 1000000) : WS m__law_one (startS 2 [.own o, .d (.lst xs)]) fun out => ∃ v s2 o', out = .rd v s2 ∧ firstO s2 = some o' ∧ Bag o' ∧ v ∈ xs := by
  unfold m__law_one
  array_mem_dec
  refine w_draw rfl hb (w := xs.length) (by cases xs with | nil => exact absurd rfl hx | cons _ _ => simp only [List.length_cons]; omega) (by omega) ?_ ?_
  · array_mem_dec
    exact ⟨rfl, rfl⟩
  · intro v o' b h1 h2
    obtain ⟨y, e, hy⟩ := atI_lt h1 h2
    refine w_opt e ?_
    exact ⟨_, _, _, rfl, rfl, b, hy⟩
theorem bentT_ok {l n : Nat} {m : MS} {ds : List D} (h3 : 3 ≤ l) (l5 : l ≤ 5000) (h0 : ds ≠ []) (hl : ds.length ≤ l) (hd : ∀ e ∈ ds, Vb l n e)
    (ih : ∀ es, es ≠ [] → .tup es ∈ ds → ∀ o : O, Bag o → WS m (startS 6 [.own o, .d (.tup es)]) (Bent (l + 1) (n + 1))) {o : O} (hb : Bag o) : WS (bentT m) [some (.own o), some (.d (.tup ds)), none, none, none, none] (Bent (l + 1) (n + 2)) := by
  have l0 : 0 < ds.length := List.length_pos_iff.mpr h0
  have hd2 : ∀ e ∈ ds, Vb (l + 1) (n + 2) e := fun e he => (hd e he).mono (by omega) (by omega)
  unfold bentT
  refine v_seq (v_par (w_bind (w_draw (i := 0) rfl hb (w := ds.length) (by omega) (by omega) ?_ fun a o1 b1 a0 a1 => ?_)))
  · array_mem_dec
    exact ⟨rfl, rfl⟩
  obtain ⟨k, rfl⟩ := Int.eq_ofNat_of_zero_le a0
  have lk : k < ds.length := by omega
  obtain ⟨y, ey⟩ : ∃ y, ds[k]? = some y := ⟨_, List.getElem?_eq_getElem lk⟩
  have my : y ∈ ds := List.mem_of_getElem? ey
  refine w_bind (w_bind (w_draw (i := 0) rfl b1 (w := 7) (by decide) (by decide) ?_ fun w o2 b2 w0 w1 => ?_))
  · array_mem_dec
    exact ⟨rfl, rfl⟩
  refine w_bind (w_ret (w_ret (w_ret ⟨_, _, rfl, ?_⟩)))
  show thenO _ _ (.nx [some (.own o2), some (.d (.tup ds)), some (.d (.int (k : Int))), some (.d (.int w)), none, none])
  have sl : ∀ {lo hi : Option Int} {es : List D} {ml mh : M (Option Int)} {st : S} {Q : D → S → Prop}, st[1]? = some (some (.d (.tup ds))) → ml st = some (lo, st) → mh st = some (hi, st) → cutD ds lo hi = es → Q (.tup es) st → Wp (slM slL (mVar 1) ml mh) st Q := by
    intro lo hi es ml mh st Q h1 h2 h3 h4 h5
    subst h4
    exact w_slM (w_var h1 ⟨_, _, h2, _, _, h3, w_opt rfl h5⟩)
  have c1 := cut_to (xs := ds) (k := k) (by omega)
  have c2 : cutD ds (some ((k : Int) + 1)) none = ds.drop (k + 1) := cut_from (k := k + 1) (by omega)
  have c3 := cut_from (ds := ds) (k := k) (by omega)
  have mt : ∀ {e : D}, e ∈ ds.take k → Vb (l + 1) (n + 2) e := fun h => hd2 _ (List.mem_of_mem_take h)
  have md : ∀ {j : Nat} {e : D}, e ∈ ds.drop j → Vb (l + 1) (n + 2) e := fun h => hd2 _ (List.mem_of_mem_drop h)
  have put : ∀ {z : D} {j : Nat}, Vb (l + 1) (n + 2) z → k ≤ j → ∀ e ∈ ds.take k ++ [z] ++ ds.drop j, Vb (l + 1) (n + 2) e := fun {z j} hz hj e he => by
    rcases List.mem_append.mp he with he | he
    · rcases List.mem_append.mp he with he | he
      · exact mt he
      · rw [List.mem_singleton.mp he]; exact hz
    · exact md he
  have len : ∀ {z : D} {j : Nat}, k ≤ j → (ds.take k ++ [z] ++ ds.drop j).length ≤ l + 1 := fun {z j} hj => by
    simp only [List.length_append, List.length_take, List.length_drop, List.length_cons, List.length_nil]
    omega
  have ad : ∀ {z : D} {j : Nat}, addL (.tup (ds.take k)) (.tup [z]) = some (.tup (ds.take k ++ [z])) ∧ addL (.tup (ds.take k ++ [z])) (.tup (ds.drop j)) = some (.tup (ds.take k ++ [z] ++ ds.drop j)) := fun {z j} => by
    constructor
    · refine adT ?_
      simp only [List.length_take, List.length_cons, List.length_nil]
      omega
    · refine adT ?_
      simp only [List.length_append, List.length_take, List.length_drop, List.length_cons, List.length_nil]
      omega
  have at1 : atD (.tup ds) (.int (k : Int)) = some y := at_nat ey
  refine thenO_nx (v_seq (v_if (w_andB (w_bind (w_bind (w_bin (w_var rfl (w_var rfl (w_opt at1 (w_opt (is_tup (hd y my).ov) (w_opt rfl ?_)))))))))))
  have rest : WS bentR [some (.own o2), some (.d (.tup ds)), some (.d (.int (k : Int))), some (.d (.int w)), none, none] (Bent (l + 1) (n + 2)) := by
    refine v_seq (v_asgO ?_)
    array_mem_dec
    refine ⟨_, _, rfl, ?_⟩
    array_mem_dec
    refine w_lendD rfl ?_
    refine w_bind (w_bin (w_frzO rfl ?_))
    array_mem_dec
    refine ⟨o2, rfl, (one_any (xs := freshL) b2 (by simp) (by simp)).mono ?_⟩
    rintro out ⟨v, s2, o3, rfl, e3, b3, hv⟩
    refine ⟨o3, e3, ?_⟩
    show thenO _ _ (.nx [some (.own o3), some (.d (.tup ds)), some (.d (.int (k : Int))), some (.d (.int w)), some (.d (.lst [.non, .bl true, .int 0, .str "", .str "a", .str "b", .str "A", .str "x y", .str "abcdefghi", .tup [], .lst [], .dic [], .str "be", .str "needs", .str "same", .str "+", .str "-", .str "+-"])), some (.d v)])
    have vv := (fresh_vb h3 v hv).mono (n := 2) (m := n + 2) (Nat.le_succ l) (by omega)
    refine thenO_nx (v_seq (v_if (w_bind (w_bin (w_var rfl (w_ret (w_opt (eq_int _ _ _) (w_opt rfl ?_))))))))
    refine iteB_by (fun _ => ?_) fun _ => v_nx (thenO_nx (v_seq (v_ret (w_ifM (w_bind (w_bin (w_var rfl (w_ret (w_opt (eq_int _ _ _) (w_opt rfl ?_)))))))))) 
    · refine v_seq (v_ret (w_bin (sl rfl rfl rfl c1 (sl rfl rfl rfl c2 (w_opt (adT ?_) ?_)))))
      · simp only [List.length_take, List.length_drop]
        omega
      · refine ⟨_, _, o3, rfl, rfl, b3, ?_, fun e he => (List.mem_append.mp he).elim mt md⟩
        simp only [List.length_append, List.length_take, List.length_drop]
        omega
    refine iteB_by (fun _ => ?_) fun _ => ?_
    · refine w_bin (w_bin (sl rfl rfl rfl c1 (w_bind (w_bind (w_var rfl (w_bind (w_ret (w_ret (w_opt (a := .tup [v]) rfl (w_opt (ad (j := 0)).1 ?_))))))))))
      refine sl rfl rfl rfl c3 (w_opt ad.2 ?_)
      exact ⟨_, _, o3, rfl, rfl, b3, len (Nat.le_refl k), put vv (Nat.le_refl k)⟩
    · refine w_bin (w_bin (sl rfl rfl rfl c1 (w_bind (w_bind (w_var rfl (w_bind (w_ret (w_ret (w_opt (a := .tup [v]) rfl (w_opt (ad (j := 0)).1 ?_))))))))))
      refine sl rfl rfl rfl c2 (w_opt ad.2 ?_)
      exact ⟨_, _, o3, rfl, rfl, b3, len (Nat.le_succ k), put vv (Nat.le_succ k)⟩
  refine iteB_by (fun ty => ?_) fun _ => iteB_f (v_nx (thenO_nx rest))
  obtain ⟨es, rfl⟩ := tup_of ty
  refine w_andB (w_bind (w_bin (w_bin (w_var rfl (w_var rfl (w_opt at1 (w_bind (w_ret (w_opt (a := D.tup []) rfl (w_opt (show eqNilT true (.tup es) (.tup []) = some (.bl (true ^^ es.isEmpty)) from rfl) (w_opt rfl ?_)))))))))))
  cases es with
  | nil => exact iteB_ff rfl (iteB_f (v_nx (thenO_nx rest)))
  | cons z zs =>
    refine iteB_tt rfl (w_bind (w_bin (w_var rfl (w_ret (w_opt rfl (w_opt rfl ?_))))))
    refine iteB_by (fun _ => ?_) fun _ => v_nx (thenO_nx rest)
    refine v_seq (v_ret (w_bin (w_bin (sl rfl rfl rfl c1 (w_bind (w_bind (w_lendD rfl ?_)))))))
    refine w_bind (w_bin (w_var rfl (w_var rfl (w_opt at1 (w_bind (w_ret (w_ret ⟨o2, rfl, ?_⟩)))))))
    refine (ih (z :: zs) (by simp) my o2 b2).mono ?_
    rintro out ⟨fs, s2, o3, rfl, e3, b3, l3, h3'⟩
    refine ⟨o3, e3, w_bind (w_ret (w_ret (w_opt (a := .tup [.tup fs]) rfl (w_opt (ad (j := 0)).1 ?_))))⟩
    refine sl rfl rfl rfl c2 (w_opt ad.2 ?_)
    exact ⟨_, _, o3, rfl, rfl, b3, len (Nat.le_succ k), put (show Vb (l + 1) (n + 2) (.tup fs) from .inr ⟨fs, rfl, l3, h3'⟩) (Nat.le_succ k)⟩
theorem bent_ok : ∀ (f n : Nat) {l : Nat} {ds : List D} {o : O}, n < f → 3 ≤ l → l ≤ 5000 → ds ≠ [] → ds.length ≤ l → (∀ e ∈ ds, Vb l n e) → Bag o → WS (mR__law_bent f) (startS 6 [.own o, .d (.tup ds)]) (Bent (l + 1) (n + 2))
  | f + 1, n, l, ds, o, hf, h3, l5, h0, hl, hd, hb => bentT_ok (m := mR__law_bent f) h3 l5 h0 hl hd (fun es he hm o hb => by
      obtain ⟨m, rfl, h1, h2⟩ := (hd _ hm).tup
      exact bent_ok f m (by omega) h3 l5 he h1 h2 hb) hb
end Fli
set_option Elab.async false
set_option linter.all false
set_option maxRecDepth 100000
set_option maxHeartbeats 2000000
namespace Fli
open PySem L2
local macro_rules | `(tactic| array_mem_dec) => `(tactic| (repeat (first | ((with_reducible change WS _ _ _); first | with_reducible refine v_seq ?_ | with_reducible refine v_nx ?_ | with_reducible refine v_ret ?_ | with_reducible refine v_retO ?_ | with_reducible refine v_if ?_ | with_reducible refine v_asg ?_ | with_reducible refine v_asgO ?_ | with_reducible refine v_asgF ?_ | with_reducible refine v_drop ?_ | with_reducible refine v_par ?_ | with_reducible refine v_par3 ?_ | with_reducible refine v_put ?_) | ((with_reducible change Wp (optM _) _ _); first | ((with_reducible show Wp (optM (blD _)) _ _); refine w_opt rfl ?_) | ((with_reducible show Wp (optM (truD _)) _ _); refine w_opt rfl ?_) | ((with_reducible refine w_eqS ?_ ?_ ?_); (first | assumption | decide +kernel); (first | assumption | decide +kernel)) | ((with_reducible refine w_tupM ?_ ?_); exact of_decide_eq_true rfl) | ((with_reducible refine w_lstM ?_ ?_); exact of_decide_eq_true rfl) | with_reducible refine w_tupM ?_ ?_ | with_reducible refine w_lstM ?_ ?_ | ((with_reducible refine w_mul ?_ ?_); first | exact Or.inl ⟨of_decide_eq_true rfl, of_decide_eq_true rfl⟩ | exact Or.inr ⟨of_decide_eq_true rfl, of_decide_eq_true rfl⟩) | ((with_reducible refine w_mod ?_ ?_); exact of_decide_eq_true rfl) | ((with_reducible refine w_div ?_ ?_); exact ⟨of_decide_eq_true rfl, of_decide_eq_true rfl⟩) | ((with_reducible refine w_pow ?_ ?_); exact ⟨of_decide_eq_true rfl, of_decide_eq_true rfl, of_decide_eq_true rfl⟩) | with_reducible refine w_mul ?_ ?_ | with_reducible refine w_div ?_ ?_ | with_reducible refine w_mod ?_ ?_ | with_reducible refine w_pow ?_ ?_ | ((with_reducible show Wp (optM _) _ _); (fail_if_success (with_reducible show Wp (optM (lenC _ _ _ _)) _ _)); (fail_if_success (with_reducible show Wp (optM (truC _ _ _ _)) _ _)); (fail_if_success (with_reducible show Wp (optM (strC _ _ _ _)) _ _)); (fail_if_success (with_reducible show Wp (optM (eqO _ _ _ _ _)) _ _)); (fail_if_success (with_reducible show Wp (optM (neO _ _ _ _ _)) _ _)); (fail_if_success (with_reducible show Wp (optM (reprD _)) _ _)); (fail_if_success (with_reducible show Wp (optM (Option.map D.bl _)) _ _)); (fail_if_success (with_reducible show Wp (optM (ownM _ _ _)) _ _)); (fail_if_success (with_reducible show Wp (optM (methO _ _ _ _ _)) _ _)); (fail_if_success (with_reducible show Wp (optM (eqD _ _ _)) _ _)); refine w_opt rfl ?_)) | ((with_reducible change Wp _ _ _); first | with_reducible refine w_bind ?_ | with_reducible refine w_bin ?_ | with_reducible refine w_binO ?_ | with_reducible refine w_ret ?_ | with_reducible refine w_ifM ?_ | with_reducible refine w_andB ?_ | with_reducible refine w_orB ?_ | with_reducible refine w_andV ?_ | with_reducible refine w_orV ?_ | with_reducible refine w_slM ?_ | with_reducible refine w_chM ?_ | ((with_reducible show Wp (mVar _) _ _); refine w_var rfl ?_) | ((with_reducible show Wp (ixN _ _) _ _); first | refine w_ixO rfl rfl ?_ | refine w_ixD rfl rfl ?_) | ((with_reducible show Wp (lenN _) _ _); refine w_lenO rfl ?_) | ((with_reducible show Wp (frzN _) _ _); first | refine w_frzO rfl ?_ | refine w_frzD rfl ?_)) | ((with_reducible change thenO _ _ _); first | with_reducible refine thenO_nx ?_ | with_reducible refine thenO_rd ?_ | with_reducible refine thenO_ro ?_) | ((with_reducible change iteB _ _ _); first | with_reducible refine iteB_t ?_ | with_reducible refine iteB_f ?_ | ((with_reducible refine iteB_tt ?_ ?_); decide +kernel) | ((with_reducible refine iteB_ff ?_ ?_); decide +kernel) | ((with_reducible refine iteB_tt ?_ ?_); assumption) | ((with_reducible refine iteB_ff ?_ ?_); assumption) | ((with_reducible show iteB _ _ _); first | refine iteB_tt rfl ?_ | refine iteB_ff rfl ?_)) | ((with_reducible show ∃ k, truD _ = some k ∧ iteB k _ _); refine ⟨_, rfl, ?_⟩) | ((with_reducible show ∃ k, cmpD _ _ _ = some (D.bl k) ∧ iteB k _ _); refine ⟨_, rfl, ?_⟩) | ((with_reducible show iteB _ _ _); first | refine iteB_tt rfl ?_ | refine iteB_ff rfl ?_) | ((with_reducible show Wp (mVar _) _ _); refine w_var rfl ?_) | ((with_reducible show Wp (ixN _ _) _ _); first | refine w_ixO rfl rfl ?_ | refine w_ixD rfl rfl ?_) | ((with_reducible show Wp (lenN _) _ _); refine w_lenO rfl ?_) | ((with_reducible show Wp (frzN _) _ _); first | refine w_frzO rfl ?_ | refine w_frzD rfl ?_) | ((with_reducible show Wp (optM _) _ _); (fail_if_success (with_reducible show Wp (optM (lenC _ _ _ _)) _ _)); (fail_if_success (with_reducible show Wp (optM (truC _ _ _ _)) _ _)); (fail_if_success (with_reducible show Wp (optM (strC _ _ _ _)) _ _)); (fail_if_success (with_reducible show Wp (optM (eqO _ _ _ _ _)) _ _)); (fail_if_success (with_reducible show Wp (optM (neO _ _ _ _ _)) _ _)); (fail_if_success (with_reducible show Wp (optM (reprD _)) _ _)); (fail_if_success (with_reducible show Wp (optM (Option.map D.bl _)) _ _)); (fail_if_success (with_reducible show Wp (optM (ownM _ _ _)) _ _)); (fail_if_success (with_reducible show Wp (optM (methO _ _ _ _ _)) _ _)); (fail_if_success (with_reducible show Wp (optM (eqD _ _ _)) _ _)); refine w_opt rfl ?_))))
/-! what is told, held against what is due -/
theorem w_ansR {m : M D} {r : R} {sf : Exn → Option D} {s s1 : S} {x : Exn} {d : D} {Q : D → S → Prop} (hr : r s = some (x, s1)) (hs : sf x = some d) (q : Q d s1) : Wp (ansM m r sf) s Q := by
  refine ⟨d, s1, ?_, q⟩
  unfold ansM
  rw [hr]
  show (sf x).map _ = _
  rw [hs]
  rfl
theorem w_ansN {m : M D} {r : R} {sf : Exn → Option D} {s : S} {Q : D → S → Prop} (hr : r s = none) (h : Wp m s fun d s1 => Q (.lst [.str "returned", d]) s1) : Wp (ansM m r sf) s Q := by
  obtain ⟨d, s1, e, q⟩ := h
  refine ⟨_, s1, ?_, q⟩
  unfold ansM
  rw [hr]
  show (m s).map _ = _
  rw [e]
  rfl
theorem sf_value {c f : Str} {v : D} {z : Str} (hc : okEx ⟨c, [(f, v)]⟩ = true) (h : reprX [v] = some (.str z)) : sfEx ⟨c, [(f, v)]⟩ = some (rowX c z) := by
  unfold sfEx
  rw [if_pos hc]
  show (reprX [v]).map _ = _
  rw [h]
  rfl
theorem strOk_of (s : String) : PyData.strOk (Str.ofString s) = true := by
  unfold PyData.strOk
  rw [Str.ofString_eq_toList, Array.all_eq_true']
  intro c hc
  rw [List.mem_toArray, List.mem_map] at hc
  obtain ⟨a, _, rfl⟩ := hc
  have v := a.valid
  rw [decide_eq_true_eq]
  show a.val.toNat < 0x110000
  rcases v with v | ⟨_, v⟩
  · exact Nat.lt_trans (show a.val.toNat < 0xd800 from v) (by decide)
  · exact v
theorem row_two {x : Str} {d : D} {q : PyData} (hx : PyData.strOk x = true) (hd : toPy d = some q) (c : q.canLay0 = true) (l : q.depth = 0) (e : PyData.eqv q q = true) : eqD true (.lst [.lst [.str x, d], .lst [.str x, d]]) (.lst [.lst [.str x, d], .lst [.str x, d]]) = some (.bl false) := by
  have e1 : toPy (.lst [.lst [.str x, d], .lst [.str x, d]]) = some (.list [.list [.str x, q], .list [.str x, q]]) := by
    have r : toPy (.lst [.str x, d]) = some (.list [.str x, q]) := by
      simp only [toPy, toPys, hd, Option.bind_some, Option.map_some]
    show (toPys [.lst [.str x, d], .lst [.str x, d]]).map PyData.list = _
    unfold toPys
    rw [r]
    unfold toPys
    rw [r]
    rfl
  unfold eqD
  rw [e1]
  have s1 : SeqAt.shaped (.list [.list [.str x, q], .list [.str x, q]]) = true := by
    unfold SeqAt.shaped
    simp [PyData.canLay0, PyData.canLayAll0, PyData.depth, PyData.depthAll, hx, c, l]
  show (if SeqAt.shaped (.list [.list [.str x, q], .list [.str x, q]]) = true ∧ SeqAt.shaped (.list [.list [.str x, q], .list [.str x, q]]) = true then some (D.bl (true ^^ PyData.eqv (.list [.list [.str x, q], .list [.str x, q]]) (.list [.list [.str x, q], .list [.str x, q]]))) else none) = _
  rw [if_pos ⟨s1, s1⟩]
  have s2 : PyData.eqv (.list [.list [.str x, q], .list [.str x, q]]) (.list [.list [.str x, q], .list [.str x, q]]) = true := by
    simp [PyData.eqv, PyData.eqvAll, e]
  rw [s2]
  rfl
theorem rows_eq {x z : Str} (hx : PyData.strOk x = true) (hz : PyData.strOk z = true) : eqD true (.lst [rowX x z, rowX x z]) (.lst [rowX x z, rowX x z]) = some (.bl false) :=
  row_two (q := .str z) hx rfl (by simp only [PyData.canLay0, hz]) (by simp only [PyData.depth]) (by simp only [PyData.eqv]; exact beq_self_eq_true z)
theorem rows_eqI {x : Str} {n : Int} (hx : PyData.strOk x = true) : eqD true (.lst [.lst [.str x, .int n], .lst [.str x, .int n]]) (.lst [.lst [.str x, .int n], .lst [.str x, .int n]]) = some (.bl false) :=
  row_two (q := .int n) hx rfl (by simp only [PyData.canLay0]) (by simp only [PyData.depth]) (by simp only [PyData.eqv]; exact beq_self_eq_true n)
abbrev a1K : M D := (ansM (bindM (bindM (mkO 3 m_Panel___init__ "Panel" (bindM (ixN 2 (retM (.int 0))) fun d => bindM (bindM (ixN 2 (retM (.int 1))) fun d => bindM (retM []) fun ds => retM (d :: ds)) fun ds => retM (d :: ds)) fun xs => xs ++ []) fun o => retM o.d) fun d => optM (lenC 1 m_Panel___len__ "Panel" d)) (rmake 3 r_Panel___init__ "Panel" (bindM (ixN 2 (retM (.int 0))) fun d => bindM (bindM (ixN 2 (retM (.int 1))) fun d => bindM (retM []) fun ds => retM (d :: ds)) fun ds => retM (d :: ds)) []) sfEx)
abbrev a2K : M D := (ansM (bindM (bindM (mkO 3 m_Panel___init__ "Panel" (bindM (ixN 2 (retM (.int 1))) fun d => bindM (bindM (ixN 2 (retM (.int 0))) fun d => bindM (retM []) fun ds => retM (d :: ds)) fun ds => retM (d :: ds)) g_Panel_rules_switches) fun o => retM o.d) fun d => optM (lenC 1 m_Panel___len__ "Panel" d)) (rmakeK 3 r_Panel___init__ "Panel" (bindM (ixN 2 (retM (.int 1))) fun d => bindM (bindM (ixN 2 (retM (.int 0))) fun d => bindM (retM []) fun ds => retM (d :: ds)) fun ds => retM (d :: ds)) g_Panel_rules_switches) sfEx)
abbrev tailK : MS := (seqM (asgO (bindM (bindM a1K fun d => bindM (retM []) fun ds => retM (d :: ds)) fun ds => optM (lstM ds)) 6)
  (seqM (appN 6 a2K)
  (seqM (ifS (bindM (mBin (eqD true) (frzN 6) (mBin repL (bindM (bindM (bindM (callD 3 m__law_due (bindM (ixN 2 (retM (.int 0))) fun d => bindM (bindM (ixN 2 (retM (.int 1))) fun d => bindM (retM []) fun ds => retM (d :: ds)) fun ds => retM (d :: ds)) []) fun d => bindM (retM []) fun ds => retM (d :: ds)) fun ds => optM (lstM ds)) fun o => retM o.d) (retM (.int 2)))) fun d => optM (blD d)) (seqM (retMS (retM (.bl false)))
  nxM) nxM)
  nxM)))
abbrev sK (o : O) (t : Option A) (a b : D) (t3 t4 t5 t6 : Option A) : S := [some (.own o), t, some (.own (.lst [a, b])), t3, t4, t5, t6]
section
variable {o : O} {t t3 t4 t5 t6 : Option A} {a b : D}
abbrev ms1 : M (List D) := bindM (ixN 2 (retM (.int 0))) fun d => bindM (bindM (ixN 2 (retM (.int 1))) fun d => bindM (retM []) fun ds => retM (d :: ds)) fun ds => retM (d :: ds)
abbrev ms2 : M (List D) := bindM (ixN 2 (retM (.int 1))) fun d => bindM (bindM (ixN 2 (retM (.int 0))) fun d => bindM (retM []) fun ds => retM (d :: ds)) fun ds => retM (d :: ds)
theorem ms_ok : ms1 (sK o t a b t3 t4 t5 t6) = some ([a, b], sK o t a b t3 t4 t5 t6) ∧ ms2 (sK o t a b t3 t4 t5 t6) = some ([b, a], sK o t a b t3 t4 t5 t6) := by
  have h : Wp ms1 (sK o t a b t3 t4 t5 t6) fun ds s1 => ds = [a, b] ∧ s1 = sK o t a b t3 t4 t5 t6 := by
    refine w_bind (w_ixO rfl rfl (w_bind (w_bind (w_ixO rfl rfl ?_))))
    array_mem_dec
    exact ⟨rfl, rfl⟩
  have h2 : Wp ms2 (sK o t a b t3 t4 t5 t6) fun ds s1 => ds = [b, a] ∧ s1 = sK o t a b t3 t4 t5 t6 := by
    refine w_bind (w_ixO rfl rfl (w_bind (w_bind (w_ixO rfl rfl ?_))))
    array_mem_dec
    exact ⟨rfl, rfl⟩
  obtain ⟨k, s1, e1, rfl, rfl⟩ := h
  obtain ⟨k2, s2, e2, rfl, rfl⟩ := h2
  exact ⟨e1, e2⟩
theorem a_raise {c z : Str} {v : D} {s' : S} {Q : D → S → Prop} (hc : c = "InvalidSwitches" ∨ c = "InvalidRules") (hz : reprX [v] = some (.str z)) (h : r_Panel___init__ (s0I a b) = some (⟨c, [("index", v)]⟩, s')) (q : Q (rowX c z) (sK o t a b t3 t4 t5 t6)) :
    Wp a1K (sK o t a b t3 t4 t5 t6) Q ∧ Wp a2K (sK o t a b t3 t4 t5 t6) Q := by
  have hs : sfEx ⟨c, [("index", v)]⟩ = some (rowX c z) := by
    rcases hc with rfl | rfl
    · exact sf_value rfl hz
    · exact sf_value rfl hz
  constructor
  · refine w_ansR (s1 := sK o t a b t3 t4 t5 t6) ?_ hs q
    show (ms1 (sK o t a b t3 t4 t5 t6)).bind _ = _
    rw [ms_ok.1]
    show (r_Panel___init__ (s0I a b)).map _ = _
    rw [h]
    rfl
  · refine w_ansR (s1 := sK o t a b t3 t4 t5 t6) ?_ hs q
    show (ms2 (sK o t a b t3 t4 t5 t6)).bind _ = _
    rw [ms_ok.2]
    show (r_Panel___init__ (s0I a b)).map _ = _
    rw [h]
    rfl
theorem a_make {es : List D} {Q : D → S → Prop} (hb : b = .tup es) (l : es.length ≤ 100000) (h : r_Panel___init__ (s0I a b) = none) (m : mkR 3 m_Panel___init__ "Panel" [a, b] = some (.obj "Panel" (pno a b))) (q : Q (.lst [.str "returned", .int (es.length : Int)]) (sK o t a b t3 t4 t5 t6)) :
    Wp a1K (sK o t a b t3 t4 t5 t6) Q ∧ Wp a2K (sK o t a b t3 t4 t5 t6) Q := by
  subst hb
  constructor
  · refine w_ansN ?_ ?_
    · show (ms1 (sK o t a (.tup es) t3 t4 t5 t6)).bind _ = _
      rw [ms_ok.1]
      show (r_Panel___init__ (s0I a (.tup es))).map _ = _
      rw [h]
      rfl
    · exact w_bind (w_bind (w_mkO ⟨_, _, ms_ok.1, ⟨_, m, w_ret (w_opt (len_pan l) q)⟩⟩))
  · refine w_ansN ?_ ?_
    · show (ms2 (sK o t a (.tup es) t3 t4 t5 t6)).bind _ = _
      rw [ms_ok.2]
      show (r_Panel___init__ (s0I a (.tup es))).map _ = _
      rw [h]
      rfl
    · exact w_bind (w_bind (w_mkO ⟨_, _, ms_ok.2, ⟨_, m, w_ret (w_opt (len_pan l) q)⟩⟩))
theorem tailK_ok (ha : Vl a) (hb : Vl b) : WS tailK (sK o t a b t3 t4 t5 t6) fun out => ∃ t6, out = .nx (sK o t a b t3 t4 t5 t6) := by
  have main : ∀ {r : D}, (∀ {t6 : Option A} {Q : D → S → Prop}, Q r (sK o t a b t3 t4 t5 t6) → Wp a1K (sK o t a b t3 t4 t5 t6) Q ∧ Wp a2K (sK o t a b t3 t4 t5 t6) Q) → ownM 3 m__law_due [a, b] = some r → eqD true (.lst [r, r]) (.lst [r, r]) = some (.bl false) → WS tailK (sK o t a b t3 t4 t5 t6) fun out => ∃ t6, out = .nx (sK o t a b t3 t4 t5 t6) := by
    intro r h e eq
    refine v_seq (v_asgO (w_bind (w_bind (h ?_).1)))
    refine w_bind (w_ret (w_ret (w_opt (a := .lst [r]) rfl ?_)))
    show thenO _ _ (.nx (sK o t a b t3 t4 t5 (some (.own (.lst [r])))))
    refine thenO_nx (v_seq (v_app (e0 := rfl) ((h ?_).2)))
    refine ⟨_, rfl, (show 1 < sizeLine by decide), ?_⟩
    show thenO _ _ (.nx (sK o t a b t3 t4 t5 (some (.own (.lst [r, r])))))
    refine thenO_nx (v_seq (v_if (w_bind (w_bin (w_frzO rfl ?_)))))
    show Wp _ (sK o t a b t3 t4 t5 (some (.d (.lst [r, r])))) _
    refine w_bin (w_bind (w_bind (w_bind (w_own e ?_))))
    refine w_bind (w_ixO rfl rfl (w_bind (w_bind (w_ixO rfl rfl ?_))))
    array_mem_dec
    refine ⟨rfl, ?_⟩
    refine w_bind (w_ret (w_ret (w_opt (a := .lst [r]) rfl (w_ret (w_ret (w_opt (a := .lst [r, r]) ?_ (w_opt eq (w_opt rfl (iteB_f (v_nx (thenO_nx (v_nx ⟨_, rfl⟩))))))))))))
    show (if -(2 ^ 63) ≤ (2 : Int) ∧ (2 : Int) < 2 ^ 63 ∧ [r].length * (2 : Int).toNat ≤ sizeLine then some (D.lst (List.replicate (2 : Int).toNat [r]).flatten) else none) = _
    rw [if_pos ⟨by decide, by decide, Nat.le_trans (m := 2) (by show 1 * 2 ≤ 2; decide) (by decide)⟩]
    rfl
  have oR : PyData.strOk "returned" = true := by decide +kernel
  rcases both ha hb with ⟨es, e1, l, h1, h2, h3⟩ | ⟨c, v, z, s', hc, hz, oz, h1, h2⟩
  · exact main (fun q => a_make e1 l h1 h2 q) h3 (rows_eqI oR)
  · refine main (fun q => a_raise hc hz h1 q) h2 (rows_eq ?_ ?_)
    · rcases hc with rfl | rfl <;> decide +kernel
    · rcases oz with rfl | ⟨k, rfl⟩
      · decide +kernel
      · exact strOk_of _
end
end Fli
set_option Elab.async false
set_option linter.all false
set_option maxRecDepth 100000
set_option maxHeartbeats 2000000
namespace Fli
open PySem L2
local macro_rules | `(tactic| array_mem_dec) => `(tactic| (repeat (first | ((with_reducible change WS _ _ _); first | with_reducible refine v_seq ?_ | with_reducible refine v_nx ?_ | with_reducible refine v_ret ?_ | with_reducible refine v_retO ?_ | with_reducible refine v_if ?_ | with_reducible refine v_asg ?_ | with_reducible refine v_asgO ?_ | with_reducible refine v_asgF ?_ | with_reducible refine v_drop ?_ | with_reducible refine v_par ?_ | with_reducible refine v_par3 ?_ | with_reducible refine v_put ?_) | ((with_reducible change Wp (optM _) _ _); first | ((with_reducible show Wp (optM (blD _)) _ _); refine w_opt rfl ?_) | ((with_reducible show Wp (optM (truD _)) _ _); refine w_opt rfl ?_) | ((with_reducible refine w_eqS ?_ ?_ ?_); (first | assumption | decide +kernel); (first | assumption | decide +kernel)) | ((with_reducible refine w_tupM ?_ ?_); exact of_decide_eq_true rfl) | ((with_reducible refine w_lstM ?_ ?_); exact of_decide_eq_true rfl) | with_reducible refine w_tupM ?_ ?_ | with_reducible refine w_lstM ?_ ?_ | ((with_reducible refine w_mul ?_ ?_); first | exact Or.inl ⟨of_decide_eq_true rfl, of_decide_eq_true rfl⟩ | exact Or.inr ⟨of_decide_eq_true rfl, of_decide_eq_true rfl⟩) | ((with_reducible refine w_mod ?_ ?_); exact of_decide_eq_true rfl) | ((with_reducible refine w_div ?_ ?_); exact ⟨of_decide_eq_true rfl, of_decide_eq_true rfl⟩) | ((with_reducible refine w_pow ?_ ?_); exact ⟨of_decide_eq_true rfl, of_decide_eq_true rfl, of_decide_eq_true rfl⟩) | with_reducible refine w_mul ?_ ?_ | with_reducible refine w_div ?_ ?_ | with_reducible refine w_mod ?_ ?_ | with_reducible refine w_pow ?_ ?_ | ((with_reducible show Wp (optM _) _ _); (fail_if_success (with_reducible show Wp (optM (lenC _ _ _ _)) _ _)); (fail_if_success (with_reducible show Wp (optM (truC _ _ _ _)) _ _)); (fail_if_success (with_reducible show Wp (optM (strC _ _ _ _)) _ _)); (fail_if_success (with_reducible show Wp (optM (eqO _ _ _ _ _)) _ _)); (fail_if_success (with_reducible show Wp (optM (neO _ _ _ _ _)) _ _)); (fail_if_success (with_reducible show Wp (optM (reprD _)) _ _)); (fail_if_success (with_reducible show Wp (optM (Option.map D.bl _)) _ _)); (fail_if_success (with_reducible show Wp (optM (ownM _ _ _)) _ _)); (fail_if_success (with_reducible show Wp (optM (methO _ _ _ _ _)) _ _)); (fail_if_success (with_reducible show Wp (optM (eqD _ _ _)) _ _)); refine w_opt rfl ?_)) | ((with_reducible change Wp _ _ _); first | with_reducible refine w_bind ?_ | with_reducible refine w_bin ?_ | with_reducible refine w_binO ?_ | with_reducible refine w_ret ?_ | with_reducible refine w_ifM ?_ | with_reducible refine w_andB ?_ | with_reducible refine w_orB ?_ | with_reducible refine w_andV ?_ | with_reducible refine w_orV ?_ | with_reducible refine w_slM ?_ | with_reducible refine w_chM ?_ | ((with_reducible show Wp (mVar _) _ _); refine w_var rfl ?_) | ((with_reducible show Wp (ixN _ _) _ _); first | refine w_ixO rfl rfl ?_ | refine w_ixD rfl rfl ?_) | ((with_reducible show Wp (lenN _) _ _); refine w_lenO rfl ?_) | ((with_reducible show Wp (frzN _) _ _); first | refine w_frzO rfl ?_ | refine w_frzD rfl ?_)) | ((with_reducible change thenO _ _ _); first | with_reducible refine thenO_nx ?_ | with_reducible refine thenO_rd ?_ | with_reducible refine thenO_ro ?_) | ((with_reducible change iteB _ _ _); first | with_reducible refine iteB_t ?_ | with_reducible refine iteB_f ?_ | ((with_reducible refine iteB_tt ?_ ?_); decide +kernel) | ((with_reducible refine iteB_ff ?_ ?_); decide +kernel) | ((with_reducible refine iteB_tt ?_ ?_); assumption) | ((with_reducible refine iteB_ff ?_ ?_); assumption) | ((with_reducible show iteB _ _ _); first | refine iteB_tt rfl ?_ | refine iteB_ff rfl ?_)) | ((with_reducible show ∃ k, truD _ = some k ∧ iteB k _ _); refine ⟨_, rfl, ?_⟩) | ((with_reducible show ∃ k, cmpD _ _ _ = some (D.bl k) ∧ iteB k _ _); refine ⟨_, rfl, ?_⟩) | ((with_reducible show iteB _ _ _); first | refine iteB_tt rfl ?_ | refine iteB_ff rfl ?_) | ((with_reducible show Wp (mVar _) _ _); refine w_var rfl ?_) | ((with_reducible show Wp (ixN _ _) _ _); first | refine w_ixO rfl rfl ?_ | refine w_ixD rfl rfl ?_) | ((with_reducible show Wp (lenN _) _ _); refine w_lenO rfl ?_) | ((with_reducible show Wp (frzN _) _ _); first | refine w_frzO rfl ?_ | refine w_frzD rfl ?_) | ((with_reducible show Wp (optM _) _ _); (fail_if_success (with_reducible show Wp (optM (lenC _ _ _ _)) _ _)); (fail_if_success (with_reducible show Wp (optM (truC _ _ _ _)) _ _)); (fail_if_success (with_reducible show Wp (optM (strC _ _ _ _)) _ _)); (fail_if_success (with_reducible show Wp (optM (eqO _ _ _ _ _)) _ _)); (fail_if_success (with_reducible show Wp (optM (neO _ _ _ _ _)) _ _)); (fail_if_success (with_reducible show Wp (optM (reprD _)) _ _)); (fail_if_success (with_reducible show Wp (optM (Option.map D.bl _)) _ _)); (fail_if_success (with_reducible show Wp (optM (ownM _ _ _)) _ _)); (fail_if_success (with_reducible show Wp (optM (methO _ _ _ _ _)) _ _)); (fail_if_success (with_reducible show Wp (optM (eqD _ _ _)) _ _)); refine w_opt rfl ?_))))
/-! the law -/
def Pt (l n : Nat) (p : D) : Prop := ∃ ds, p = .tup ds ∧ ds.length ≤ l ∧ ∀ e ∈ ds, Vb l n e
theorem Pt.up {l n k m : Nat} {p : D} (h : Pt l n p) (lk : l ≤ k) (nm : n ≤ m) : Pt k m p := by
  obtain ⟨ds, e, hl, hd⟩ := h
  exact ⟨ds, e, Nat.le_trans hl lk, fun e he => (hd e he).mono lk nm⟩
theorem Pt.vl {l n : Nat} {p : D} (h : Pt l n p) (hl : l ≤ 100000) : Vl p := by
  obtain ⟨ds, rfl, l1, hd⟩ := h
  exact Vb.vl (l := l) (n := n + 1) (.inr ⟨ds, rfl, l1, hd⟩) hl
theorem at_vb {l : Nat} {x : Str} (n : Nat) (h : PyData.strOk x = true ∧ x.length ≤ 1000) : Vb l n (.str x) := Vb.at (.str x h) n
theorem lit_vb {l : Nat} {y g : Str} (h2 : 2 ≤ l) (hy : PyData.strOk y = true ∧ y.length ≤ 1000) (hg : PyData.strOk g = true ∧ g.length ≤ 1000) (n : Nat) : Vb l (n + 1) (.tup [.str y, .str g]) := by
  refine .inr ⟨_, rfl, h2, fun e he => ?_⟩
  simp only [List.mem_cons, List.not_mem_nil, or_false] at he
  rcases he with rfl | rfl
  · exact at_vb n hy
  · exact at_vb n hg
theorem rule_vb {l : Nat} {xs : List Str} {d : D} (h3 : 3 ≤ l) (hx : ∀ x ∈ xs, PyData.strOk x = true ∧ x.length ≤ 1000) (r : IsRule xs d) : Vb l 2 d := by
  have sg : ∀ g ∈ SIG, PyData.strOk g = true ∧ g.length ≤ 1000 := by decide +kernel
  have lw : ∀ g ∈ LitW, PyData.strOk g = true ∧ g.length ≤ 1000 := by decide +kernel
  have nw : ∀ g ∈ NamW, PyData.strOk g = true ∧ g.length ≤ 1000 := by decide +kernel
  rcases r with ⟨_, ⟨x, hm, g, hg, rfl⟩, rfl⟩ | ⟨w, hw, x, hm, y, hy, g, hg, k, hk, ne, rfl⟩ | ⟨w, hw, x, hm, y, hy, ne, rfl⟩
  · refine .inr ⟨_, rfl, (by show 2 ≤ l; omega), fun e he => ?_⟩
    simp only [List.mem_cons, List.not_mem_nil, or_false] at he
    rcases he with rfl | rfl
    · exact at_vb 1 (by decide +kernel)
    · exact lit_vb (by omega) (hx x hm) (sg g hg) 0
  · refine .inr ⟨_, rfl, h3, fun e he => ?_⟩
    simp only [List.mem_cons, List.not_mem_nil, or_false] at he
    rcases he with rfl | rfl | rfl
    · exact at_vb 1 (lw w hw)
    · exact lit_vb (by omega) (hx x hm) (sg g hg) 0
    · exact lit_vb (by omega) (hx y hy) (sg k hk) 0
  · refine .inr ⟨_, rfl, h3, fun e he => ?_⟩
    simp only [List.mem_cons, List.not_mem_nil, or_false] at he
    rcases he with rfl | rfl | rfl
    · exact at_vb 1 (nw w hw)
    · exact at_vb 1 (hx x hm)
    · exact at_vb 1 (hx y hy)
theorem eight_vb {l : Nat} : ∀ d ∈ ([.str "p", .str "q", .str "r", .str "s", .str "t", .str "u", .str "v", .str "w"] : List D), Vb l 0 d := by
  have h : ∀ x ∈ (["p", "q", "r", "s", "t", "u", "v", "w"] : List Str), PyData.strOk x = true ∧ x.length ≤ 1000 := by decide +kernel
  intro d hd
  have : d ∈ (["p", "q", "r", "s", "t", "u", "v", "w"] : List Str).map D.str := hd
  obtain ⟨x, hx, rfl⟩ := List.mem_map.mp this
  exact at_vb 0 (h x hx)
abbrev st2 : MS := (ifS (bindM (mBin (eqD false) (lendD 5 m__law_draw 0 (bindM (retM (.int 6)) fun d => bindM (retM []) fun ds => retM (d :: ds))) (retM (.int 0))) fun d => optM (blD d)) (seqM (putN 2 (retM (.int 1)) (mBin addL (ixN 2 (retM (.int 1))) (mBin repX (bindM (bindM (mVar 3) fun d => bindM (retM []) fun ds => retM (d :: ds)) fun ds => optM (tupM ds)) (lendD 2 m__law_one 0 (bindM (bindM (bindM (bindM (retM (.int 232)) fun d => bindM (bindM (retM (.int 240)) fun d => bindM (bindM (retM (.int 241)) fun d => bindM (retM []) fun ds => retM (d :: ds)) fun ds => retM (d :: ds)) fun ds => retM (d :: ds)) fun ds => optM (lstM ds)) fun o => retM o.d) fun d => bindM (retM []) fun ds => retM (d :: ds))))))
  nxM) nxM)
abbrev st3 : MS := (ifS (bindM (mBin (eqD false) (lendD 5 m__law_draw 0 (bindM (retM (.int 8)) fun d => bindM (retM []) fun ds => retM (d :: ds))) (retM (.int 0))) fun d => optM (blD d)) (seqM (putN 2 (retM (.int 0)) (mBin addL (ixN 2 (retM (.int 0))) (slM slL (bindM (bindM (retM (.str ("p" : Str))) fun d => bindM (bindM (retM (.str ("q" : Str))) fun d => bindM (bindM (retM (.str ("r" : Str))) fun d => bindM (bindM (retM (.str ("s" : Str))) fun d => bindM (bindM (retM (.str ("t" : Str))) fun d => bindM (bindM (retM (.str ("u" : Str))) fun d => bindM (bindM (retM (.str ("v" : Str))) fun d => bindM (bindM (retM (.str ("w" : Str))) fun d => bindM (retM []) fun ds => retM (d :: ds)) fun ds => retM (d :: ds)) fun ds => retM (d :: ds)) fun ds => retM (d :: ds)) fun ds => retM (d :: ds)) fun ds => retM (d :: ds)) fun ds => retM (d :: ds)) fun ds => retM (d :: ds)) fun ds => optM (tupM ds)) (retM none) (bindM (lendD 5 m__law_draw 0 (bindM (retM (.int 8)) fun d => bindM (retM []) fun ds => retM (d :: ds))) fun d => optM ((intD d).map some)))))
  nxM) nxM)
abbrev st4 : MS := (forR (bindM (lendD 5 m__law_draw 0 (bindM (retM (.int 3)) fun d => bindM (retM []) fun ds => retM (d :: ds))) fun d => bindM (retM []) fun ds => retM (d :: ds)) rng1 (setF 4)
  (seqM (asgM (lendD 5 m__law_draw 0 (bindM (retM (.int 2)) fun d => bindM (retM []) fun ds => retM (d :: ds))) (setF 5))
  (seqM (ifS (andB (bindM (bindM (ixN 2 (mVar 5)) fun d => optM (isB "tuple" d)) fun d => optM (truD d)) (bindM (mBin (eqNilT true) (ixN 2 (mVar 5)) (bindM (retM []) fun ds => optM (tupM ds))) fun d => optM (blD d))) (seqM (putN 2 (mVar 5) (lendD 6 m__law_bent 0 (bindM (ixN 2 (mVar 5)) fun d => bindM (retM []) fun ds => retM (d :: ds))))
  nxM) nxM)
  nxM)))
abbrev st6 : MS := (ifS (bindM (mBin (cmpD fun i j => decide (i < j)) (mVar 5) (retM (.int 2))) fun d => optM (blD d)) (seqM (putN 2 (mVar 5) (lendD 2 m__law_one 0 (bindM (bindM (bindM (bindM (bindM (bindM (bindM (ixN 2 (mVar 5)) fun d => bindM (retM []) fun ds => retM (d :: ds)) fun ds => optM (lstcD ds)) fun o => retM o.d) fun d => bindM (bindM (retM .non) fun d => bindM (bindM (retM (.str ("a" : Str))) fun d => bindM (bindM (retM (.int 3)) fun d => bindM (bindM (bindM (fun s => some (O.dic [], s)) fun o => retM o.d) fun d => bindM (bindM (bindM (retM []) fun ds => optM (tupM ds)) fun d => bindM (retM []) fun ds => retM (d :: ds)) fun ds => retM (d :: ds)) fun ds => retM (d :: ds)) fun ds => retM (d :: ds)) fun ds => retM (d :: ds)) fun ds => retM (d :: ds)) fun ds => optM (lstM ds)) fun o => retM o.d) fun d => bindM (retM []) fun ds => retM (d :: ds))))
  nxM) nxM)
section
variable {o : O} {t t3 t4 t5 t6 : Option A} {a b : D}
theorem flat_rep {α : Type} {a : α} : ∀ n : Nat, (List.replicate n [a]).flatten = List.replicate n a
  | 0 => rfl
  | n + 1 => by rw [List.replicate_succ, List.flatten_cons, flat_rep n, List.replicate_succ]; rfl
theorem st2_ok {r : D} (hb : Bag o) (h : Pt 20 2 b) (hr : Vb 20 2 r) : WS st2 (sK o t a b (some (.d r)) t4 t5 t6) fun out => ∃ o' b', Bag o' ∧ Pt 300 2 b' ∧ out = .nx (sK o' t a b' (some (.d r)) t4 t5 t6) := by
  obtain ⟨es, rfl, l, he⟩ := h
  refine v_if (w_bind (w_bin (w_draw (i := 0) rfl hb (w := 6) (by decide) (by decide) ?_ fun v o2 b2 v0 v1 => ?_)))
  · array_mem_dec
    exact ⟨rfl, rfl⟩
  refine w_ret (w_opt (eq_int _ _ _) (w_opt rfl ?_))
  refine iteB_by (fun _ => ?_) fun _ => v_nx ⟨o2, _, b2, ⟨es, rfl, by omega, fun e h => (he e h).mono (by decide) (by decide)⟩, rfl⟩
  refine v_seq (v_put (w_bin (w_ixO rfl rfl (w_bin (w_bind (w_bind (w_var rfl (w_bind (w_ret (w_ret (w_opt (a := .tup [r]) rfl ?_)))))))))))
  refine w_one rfl b2 (xs := [.int 232, .int 240, .int 241]) (by simp) (by simp) ?_ fun w o3 b3 hw => ?_
  · array_mem_dec
    exact ⟨rfl, rfl⟩
  obtain ⟨k, rfl, k1⟩ : ∃ k : Nat, w = .int (k : Int) ∧ k ≤ 241 := by
    simp only [List.mem_cons, List.not_mem_nil, or_false] at hw
    rcases hw with rfl | rfl | rfl
    · exact ⟨232, rfl, by decide⟩
    · exact ⟨240, rfl, by decide⟩
    · exact ⟨241, rfl, by decide⟩
  have e1 : repX (.tup [r]) (.int (k : Int)) = some (.tup (List.replicate k r)) := by
    show (if [r] ≠ [] ∧ 0 ≤ (k : Int) ∧ (k : Int) ≤ 1000 ∧ [r].length ≤ 1000 then some (D.tup (List.replicate (k : Int).toNat [r]).flatten) else none) = _
    rw [if_pos ⟨by simp, by omega, by omega, by simp⟩, Int.toNat_natCast, flat_rep]
  refine w_opt e1 (w_opt (adT (by rw [List.length_replicate]; omega)) ?_)
  refine ⟨_, rfl, w_ret ⟨_, _, 1, rfl, rfl, rfl, ?_⟩⟩
  refine thenO_nx (v_nx ⟨o3, _, b3, ⟨_, rfl, by rw [List.length_append, List.length_replicate]; omega, fun e h => ?_⟩, rfl⟩)
  rcases List.mem_append.mp h with h | h
  · exact (he e h).mono (by decide) (by decide)
  · rw [(List.mem_replicate.mp h).2]
    exact hr.mono (by decide) (by decide)
theorem st3_ok (hb : Bag o) (h : Pt 10 0 a) : WS st3 (sK o t a b t3 t4 t5 t6) fun out => ∃ o' a', Bag o' ∧ Pt 20 0 a' ∧ out = .nx (sK o' t a' b t3 t4 t5 t6) := by
  obtain ⟨es, rfl, l, he⟩ := h
  refine v_if (w_bind (w_bin (w_draw (i := 0) rfl hb (w := 8) (by decide) (by decide) ?_ fun v o2 b2 v0 v1 => ?_)))
  · array_mem_dec
    exact ⟨rfl, rfl⟩
  refine w_ret (w_opt (eq_int _ _ _) (w_opt rfl ?_))
  refine iteB_by (fun _ => ?_) fun _ => v_nx ⟨o2, _, b2, ⟨es, rfl, by omega, fun e h => (he e h).mono (by decide) (by decide)⟩, rfl⟩
  refine v_seq (v_put (w_bin (w_ixO rfl rfl (w_slM ?_))))
  array_mem_dec
  refine w_draw (i := 0) rfl b2 (w := 8) (by decide) (by decide) ?_ fun w o3 b3 w0 w1 => ?_
  · array_mem_dec
    exact ⟨rfl, rfl⟩
  refine w_opt (a := some w) rfl (w_opt (a := .tup (cutD [.str "p", .str "q", .str "r", .str "s", .str "t", .str "u", .str "v", .str "w"] none (some w))) rfl ?_)
  have lc : (cutD ([.str "p", .str "q", .str "r", .str "s", .str "t", .str "u", .str "v", .str "w"] : List D) none (some w)).length ≤ 8 := by
    unfold cutD
    rw [List.length_take, List.length_drop]
    simp only [List.length_cons, List.length_nil]
    omega
  refine w_opt (adT (by omega)) ?_
  refine ⟨_, rfl, w_ret ⟨_, _, 0, rfl, rfl, rfl, ?_⟩⟩
  refine thenO_nx (v_nx ⟨o3, _, b3, ⟨_, rfl, by rw [List.length_append]; omega, fun e h => ?_⟩, rfl⟩)
  rcases List.mem_append.mp h with h | h
  · exact (he e h).mono (by decide) (by decide)
  · unfold cutD at h
    exact eight_vb e (List.mem_of_mem_drop (List.mem_of_mem_take h))
/-- one place bent -/
theorem st4_ok (hb : Bag o) (ha : Pt 300 2 a) (hb' : Pt 300 2 b) : WS st4 (sK o t a b t3 t4 t5 t6) fun out => ∃ o' a' b' t4 t5, Bag o' ∧ Pt 400 8 a' ∧ Pt 400 8 b' ∧ out = .nx (sK o' t a' b' t3 t4 t5 t6) := by
  refine v_forR (w_bind (w_draw (i := 0) rfl hb (w := 3) (by decide) (by decide) ?_ fun v o2 b2 v0 v1 => ?_))
  · array_mem_dec
    exact ⟨rfl, rfl⟩
  array_mem_dec
  refine ⟨rngD 0 v.toNat, if_pos (by unfold okR; exact decide_eq_true ⟨by omega, by omega⟩), ?_⟩
  refine loop_ok (inv := fun es s => ∃ (o : O) (a b : D) (t4 t5 : Option A) (j : Nat), Bag o ∧ Pt (300 + j) (2 + 2 * j) a ∧ Pt (300 + j) (2 + 2 * j) b ∧ j + es.length ≤ 2 ∧ s = sK o t a b t3 t4 t5 t6) ?_ ?_ _ _ ⟨o2, a, b, t4, t5, 0, b2, ha, hb', ?_, rfl⟩
  · rintro d es s ⟨o, a, b, t4, t5, j, hb, ha, hb', hj, rfl⟩
    simp only [List.length_cons] at hj
    refine ⟨_, rfl, ?_⟩
    show WS _ (sK o t a b t3 (some (.d d)) t5 t6) _
    refine v_seq (v_asg (w_draw (i := 0) rfl hb (w := 2) (by decide) (by decide) ?_ fun v o2 b2 v0 v1 => ?_))
    · array_mem_dec
      exact ⟨rfl, rfl⟩
    show thenO _ _ (.nx (sK o2 t a b t3 (some (.d d)) (some (.d (.int v))) t6))
    obtain ⟨k, rfl, hk⟩ : ∃ k : Nat, v = (k : Int) ∧ (k = 0 ∨ k = 1) := ⟨v.toNat, by omega, by omega⟩
    have pt : ∃ p, ([a, b] : List D)[k]? = some p ∧ Pt (300 + j) (2 + 2 * j) p := by
      rcases hk with rfl | rfl
      · exact ⟨a, rfl, ha⟩
      · exact ⟨b, rfl, hb'⟩
    obtain ⟨p, ep, ds, rfl, hl, hd⟩ := pt
    have ei : atI [a, b] (k : Int) = some (.tup ds) := by
      rcases hk with rfl | rfl <;> (cases ep; rfl)
    have eix : L2.ixN ([a, b] : List D).length (k : Int) = some k := by
      rcases hk with rfl | rfl <;> rfl
    have ix : ∀ {Q : D → S → Prop}, Q (.tup ds) (sK o2 t a b t3 (some (.d d)) (some (.d (.int (k : Int)))) t6) → Wp (ixN 2 (mVar 5)) (sK o2 t a b t3 (some (.d d)) (some (.d (.int (k : Int)))) t6) Q := fun {Q} q =>
      w_bind ⟨_, _, mLs_o rfl, w_bind (w_var rfl (w_bind ⟨_, _, mLs_o rfl, w_opt ei q⟩))⟩
    have up : ∀ {p : D}, Pt (300 + j) (2 + 2 * j) p → Pt (300 + (j + 1)) (2 + 2 * (j + 1)) p := fun h => h.up (by omega) (by omega)
    refine thenO_nx (v_seq (v_if (w_andB (w_bind (w_bind (ix (w_opt rfl (w_opt rfl (iteB_t ?_)))))))))
    refine w_bind (w_bin (ix (w_bind (w_ret (w_opt (a := D.tup []) rfl (w_opt (show eqNilT true (.tup ds) (.tup []) = some (.bl (true ^^ ds.isEmpty)) from rfl) (w_opt rfl ?_)))))))
    cases ds with
    | nil => exact iteB_ff rfl (v_nx (thenO_nx (v_nx ⟨o2, a, b, _, _, j + 1, b2, up ha, up hb', by omega, rfl⟩)))
    | cons z zs =>
      refine iteB_tt rfl (v_seq (v_put (w_lendD rfl (w_bind (ix (w_bind (w_ret (w_ret ⟨o2, rfl, ?_⟩))))))))
      refine (bent_ok 12 (2 + 2 * j) (by omega) (by omega) (by omega) (by simp) hl hd b2).mono ?_
      rintro out ⟨fs, s2, o3, rfl, e3, b3, l3, h3⟩
      refine ⟨o3, e3, _, rfl, w_var rfl ⟨_, _, k, rfl, rfl, eix, ?_⟩⟩
      have pf : Pt (300 + (j + 1)) (2 + 2 * (j + 1)) (.tup fs) := ⟨fs, rfl, l3, h3⟩
      rcases hk with rfl | rfl
      · exact thenO_nx (v_nx (thenO_nx (v_nx ⟨o3, .tup fs, b, _, _, j + 1, b3, pf, up hb', by omega, rfl⟩)))
      · exact thenO_nx (v_nx (thenO_nx (v_nx ⟨o3, a, .tup fs, _, _, j + 1, b3, up ha, pf, by omega, rfl⟩)))
  · rintro s ⟨o, a, b, t4, t5, j, hb, ha, hb', hj, rfl⟩
    simp only [List.length_nil] at hj
    exact ⟨o, a, b, t4, t5, hb, ha.up (by omega) (by omega), hb'.up (by omega) (by omega), rfl⟩
  · unfold rngD
    rw [List.length_map, List.length_range]
    omega
theorem st6_ok {v : Int} (hb : Bag o) (v0 : 0 ≤ v) (ha : Pt 400 8 a) (hb' : Pt 400 8 b) : WS st6 (sK o t a b t3 t4 (some (.d (.int v))) t6) fun out => ∃ o' a' b', Bag o' ∧ Vl a' ∧ Vl b' ∧ out = .nx (sK o' t a' b' t3 t4 (some (.d (.int v))) t6) := by
  refine v_if (w_bind (w_bin (w_var rfl (w_ret (w_opt rfl (w_opt rfl ?_))))))
  refine iteB_by (fun h => ?_) fun _ => v_nx ⟨o, a, b, hb, ha.vl (by decide), hb'.vl (by decide), rfl⟩
  have v1 : v < 2 := of_decide_eq_true h
  obtain ⟨k, rfl, hk⟩ : ∃ k : Nat, v = (k : Int) ∧ (k = 0 ∨ k = 1) := ⟨v.toNat, by omega, by omega⟩
  have pt : ∃ p, ([a, b] : List D)[k]? = some p ∧ Pt 400 8 p := by
    rcases hk with rfl | rfl
    · exact ⟨a, rfl, ha⟩
    · exact ⟨b, rfl, hb'⟩
  obtain ⟨p, ep, ds, rfl, hl, hd⟩ := pt
  have ei : atI [a, b] (k : Int) = some (.tup ds) := by
    rcases hk with rfl | rfl <;> (cases ep; rfl)
  have eix : L2.ixN ([a, b] : List D).length (k : Int) = some k := by
    rcases hk with rfl | rfl <;> rfl
  have ix : ∀ {Q : D → S → Prop}, Q (.tup ds) (sK o t a b t3 t4 (some (.d (.int (k : Int)))) t6) → Wp (ixN 2 (mVar 5)) (sK o t a b t3 t4 (some (.d (.int (k : Int)))) t6) Q := fun {Q} q =>
    w_bind ⟨_, _, mLs_o rfl, w_bind (w_var rfl (w_bind ⟨_, _, mLs_o rfl, w_opt ei q⟩))⟩
  refine v_seq (v_put (w_one rfl hb (xs := [.lst ds, .non, .str "a", .int 3, .dic [], .tup []]) (by simp) (by simp) ?_ fun w o3 b3 hw => ?_))
  · refine w_bind (w_bind (w_bind (w_bind (w_bind (w_bind (w_bind (ix ?_)))))))
    array_mem_dec
    refine ⟨_, _, rfl, ?_⟩
    array_mem_dec
    exact ⟨rfl, rfl⟩
  have vw : Vl w := by
    simp only [List.mem_cons, List.not_mem_nil, or_false] at hw
    rcases hw with rfl | rfl | rfl | rfl | rfl | rfl
    · exact ⟨.lst _, fun _ e => nomatch e⟩
    · exact ⟨.non, fun _ e => nomatch e⟩
    · exact ⟨.str _ (by decide +kernel), fun _ e => nomatch e⟩
    · exact ⟨.int _, fun _ e => nomatch e⟩
    · exact ⟨.dic _, fun _ e => nomatch e⟩
    · exact ⟨.tup (fun _ h => nomatch h), fun _ e => by cases e; exact Nat.zero_le _⟩
  refine ⟨_, rfl, w_var rfl ⟨_, _, k, rfl, rfl, eix, ?_⟩⟩
  have va := ha.vl (by decide : 400 ≤ 100000)
  have vb := hb'.vl (by decide : 400 ≤ 100000)
  rcases hk with rfl | rfl
  · exact thenO_nx (v_nx ⟨o3, w, b, b3, vw, vb, rfl⟩)
  · exact thenO_nx (v_nx ⟨o3, a, w, b3, va, vw, rfl⟩)
end
theorem right_ok {o : O} (hb : Bag o) : WS m__law_right (startS 7 [.own o]) fun out => ∃ s2, out = .rd (.bl true) s2 := by
  unfold m__law_right
  refine v_seq (v_forR ?_)
  array_mem_dec
  refine ⟨_, rfl, ?_⟩
  refine loop_ok (inv := fun ds s => ∃ (o : O) (t1 t2 t3 t4 t5 t6 : Option A), Bag o ∧ s = [some (.own o), t1, t2, t3, t4, t5, t6]) ?_ ?_ _ _ ⟨o, none, none, none, none, none, none, hb, rfl⟩
  · rintro d ds s ⟨o, t1, t2, t3, t4, t5, t6, hb, rfl⟩
    refine ⟨_, rfl, ?_⟩
    show WS _ [some (.own o), some (.d d), t2, t3, t4, t5, t6] _
    refine v_seq (v_asgO (w_slM (w_bind (w_lendO (n := 8) rfl ?_))))
    array_mem_dec
    refine ⟨o, rfl, (panel_ok (w := 7) (m := 8) (by decide) (by decide) (by decide) hb).mono ?_⟩
    rintro out ⟨q, s2, o1, rfl, ⟨xs, es, z, rfl, l0, l1, nd, hp, lr, hr, tz⟩, e2, b1⟩
    refine ⟨o1, e2, ?_⟩
    refine w_ret (w_ret (w_bind (w_ret (w_opt (a := some 2) rfl (w_opt (a := .lst [.tup (xs.map D.str), .tup es]) rfl ?_)))))
    show thenO _ _ (.nx (sK o1 (some (.d d)) (.tup (xs.map D.str)) (.tup es) t3 t4 t5 t6))
    have hx : ∀ x ∈ xs, PyData.strOk x = true ∧ x.length ≤ 1000 := fun x hx => by
      have n := nm_pool x (hp x hx)
      exact ⟨n.ok, by have := n.hi; omega⟩
    have pa : Pt 10 0 (.tup (xs.map D.str)) := ⟨_, rfl, by rw [List.length_map]; omega, fun e he => by
      obtain ⟨x, mx, rfl⟩ := List.mem_map.mp he
      exact at_vb 0 (hx x mx)⟩
    have pb : Pt 20 2 (.tup es) := ⟨_, rfl, by omega, fun e he => rule_vb (by decide) hx (hr e he)⟩
    obtain ⟨x0, xr, rfl⟩ : ∃ x0 xr, xs = x0 :: xr := by
      cases xs with
      | nil => simp at l0
      | cons a b => exact ⟨a, b, rfl⟩
    have hx0 := hx x0 (by simp)
    refine thenO_nx (v_seq (v_asg (w_bind (w_bind (w_ret (w_bind (w_bind (w_bind (w_bind (w_bin (w_ixO rfl rfl ?_))))))))))) 
    array_mem_dec
    refine w_opt (at0T (a := .str x0) (l := xr.map D.str)) (w_bind (w_bind (w_ret (w_bind (w_ret (w_ret (w_ret (w_opt (a := .tup [.str x0, .str "+"]) rfl ?_))))))))
    refine w_bind (w_ret (w_ret (w_ret (w_opt (a := .tup [.str "be", .tup [.str x0, .str "+"]]) rfl ?_))))
    show thenO _ _ (.nx (sK o1 (some (.d d)) (.tup ((x0 :: xr).map D.str)) (.tup es) (some (.d (.tup [.str "be", .tup [.str x0, .str "+"]]))) t4 t5 t6))
    have vr : Vb 20 2 (.tup [.str "be", .tup [.str x0, .str "+"]]) := .inr ⟨_, rfl, (by show 2 ≤ 20; decide), fun e he => by
      simp only [List.mem_cons, List.not_mem_nil, or_false] at he
      rcases he with rfl | rfl
      · exact at_vb 1 (by decide +kernel)
      · exact lit_vb (by decide) hx0 (by decide +kernel) 0⟩
    refine thenO_nx (v_seq ((st2_ok b1 pb vr).mono ?_))
    rintro out ⟨o2, pB, b2, qb, rfl⟩
    refine thenO_nx (v_seq ((st3_ok b2 pa).mono ?_))
    rintro out ⟨o3, pA, b3, qa, rfl⟩
    refine thenO_nx (v_seq ((st4_ok b3 (qa.up (by decide) (by decide)) qb).mono ?_))
    rintro out ⟨o4, pA, pB, u4, u5, b4, qa, qb, rfl⟩
    refine thenO_nx (v_seq (v_asg (w_draw (i := 0) rfl b4 (w := 20) (by decide) (by decide) ?_ fun v o5 b5 v0 v1 => ?_)))
    · array_mem_dec
      exact ⟨rfl, rfl⟩
    refine thenO_nx (v_seq ((st6_ok (v := v) b5 v0 qa qb).mono ?_))
    rintro out ⟨o6, pA, pB, b6, va, vb, rfl⟩
    refine thenO_nx ((tailK_ok va vb).mono ?_)
    rintro out ⟨u6, rfl⟩
    exact ⟨o6, _, _, _, _, _, _, b6, rfl⟩
  · rintro s ⟨o, t1, t2, t3, t4, t5, t6, hb, rfl⟩
    array_mem_dec
    exact ⟨_, rfl⟩
theorem law_true (ns : List Int) (h : ns.length ≤ 63) : ∃ s', callR N_law.length m_law [.d (.scr ns)] = some (.rd (.bl true) s') := by
  have run : WS m_law (startS 2 [.d (.scr ns)]) fun out => ∃ s2, out = .rd (.bl true) s2 := by
    unfold m_law
    array_mem_dec
    refine w_cplR ?_
    array_mem_dec
    have big : ∀ v : Int, 0 ≤ v → v ≤ 6 → rng1 [.int v] = some (rngD 0 v.toNat) := fun v v0 v1 => if_pos (by unfold okR; exact decide_eq_true ⟨by omega, by omega⟩)
    have fits : ∀ m : Int, 0 ≤ m → 0 ≤ (if (if 6 < m then 6 else m) > 2 then if 6 < m then (6 : Int) else m else 2) ∧ (if (if 6 < m then 6 else m) > 2 then if 6 < m then (6 : Int) else m else 2) ≤ 6 := by
      intro m hm
      split <;> split <;> omega
    obtain ⟨f0, f1⟩ := fits (ns.length : Int) (by omega)
    refine ⟨_, big _ f0 f1, ?_⟩
    refine w_comp (inv := fun ds acc s => (∀ d ∈ ds, ∃ k : Int, d = .int k ∧ 0 ≤ k ∧ k < 1000) ∧ acc.length + ds.length ≤ 6 ∧ (∀ d ∈ acc, d = .bl true) ∧ s = [some (.d (.scr ns)), none]) rfl ⟨?_, ?_, (fun d hd => nomatch hd), rfl⟩ ?_ ?_
    · intro d hd
      unfold rngD at hd
      obtain ⟨k, hk, rfl⟩ := List.mem_map.mp hd
      have hk := List.mem_range.mp hk
      exact ⟨_, rfl, by omega, by omega⟩
    · unfold rngD
      rw [List.length_map, List.length_range, List.length_nil]
      omega
    · rintro d ds acc s ⟨hd, hl, ha, rfl⟩
      obtain ⟨k, rfl, k0, k1⟩ := hd d (by simp)
      simp only [List.length_cons] at hl
      refine ⟨_, rfl, w_ret (iteB_t ?_)⟩
      refine w_giveD (w_callO ?_)
      array_mem_dec
      refine (bag_ok k0 k1).mono ?_
      rintro out ⟨o, s2, rfl, hb⟩
      refine (right_ok hb).mono ?_
      rintro out ⟨s3, rfl⟩
      refine ⟨Nat.lt_of_le_of_lt (by omega : acc.length ≤ 6) (by decide), fun y hy => hd y (by simp [hy]), by simp; omega, ?_, rfl⟩
      intro y hy
      rcases List.mem_append.mp hy with hy | hy
      · exact ha y hy
      · simpa using hy
    · rintro acc s2 ⟨_, _, ha, rfl⟩
      obtain ⟨bs, e, al⟩ := bls_true ha
      array_mem_dec
      refine w_opt (show allD [.lst acc] = some (.bl true) by show (blsD acc).map _ = _; rw [e]; show some (D.bl (bs.all id)) = _; rw [al]) ?_
      array_mem_dec
      exact ⟨_, rfl⟩
  obtain ⟨o, e, s2, rfl⟩ := run
  exact ⟨s2, e⟩
end Fli
set_option Elab.async false
set_option linter.all false
set_option maxRecDepth 100000
set_option maxHeartbeats 0
open PySem PySem.W PyProof.Rows
theorem PySem.Challenge.cw_fliponce_k02_whole_switches_and_rules_ju_holds : PySem.Challenge.rw_fliponce_k02_whole_switches_and_rules_ju.Holds := by
  w_on; o_law; k_head; (case hw => w_witness2)
  k_fill
  refine Fli.walkGT (l := PySem.Challenge.rw_fliponce_k02_whole_switches_and_rules_ju) (n := 63) (k := 19) (N := Fli.N_law) (x := "_law_script") (xr := "_law_right") (qr := (("_law_right" : Str) ++ ".<locals>.") ++ "<lambda>") (body := Fli.m_law) rfl (by decide) rfl ⟨rfl, by decide, by decide⟩ (fun w h Y => PySem.W.km_in_of Y) rfl ?F Fli.law_true
  case F =>
    intro w mg fa h KX G hmg
    refine' Fli.tab_then (Fli.tabR_mk (x := "_law_right") (st := Fli.s__law_right) KX G ?a ?l ?cd ?k ?lc ?hv ?nP) ?go
    (case a => k_is)
    (case l => k_is)
    (case cd => k_is)
    (case k => k_is)
    (case lc => k_is)
    (case hv => rfl)
    (case nP => first | kernel_rfl | rfl | decide)
    intro TR
    obtain ⟨fr, fdr, cc, PP, FR, hmr, ht, nP⟩ := TR
    letI i0 : Fli.HW := ⟨(PySem.Challenge.rw_fliponce_k02_whole_switches_and_rules_ju).prog, w, [(PP, (("_law_right" : Str) ++ ".<locals>.") ++ "<lambda>")]⟩
    refine ⟨cc, PP, ht, nP, Fli.fd_mk ?AM⟩
    refine' Fli.all_mk KX G hmg ?a_Panel ?pg_Panel ?hd_Panel ?po_Panel ?sa_Panel ?oc_Panel ?T ?c_LETTERS ?c_LITERAL_WORDS ?c_MOST_NAME ?c_MOST_RULES ?c_MOST_SWITCHES ?c_NAME_WORDS ?c_SIGNS ?c_WORDS ?z_InvalidSwitches ?n_InvalidSwitches_index ?xc_InvalidSwitches ?i_InvalidSwitches_SizeError ?i_InvalidSwitches_QuestionError ?i_InvalidSwitches_ShapeError ?i_InvalidSwitches_ArithmeticError ?i_InvalidSwitches_LookupError ?i_InvalidSwitches_ValueError ?i_InvalidSwitches_InvalidRules ?i_InvalidSwitches_InvalidSwitches ?em_InvalidSwitches ?z_InvalidRules ?n_InvalidRules_index ?xc_InvalidRules ?i_InvalidRules_SizeError ?i_InvalidRules_QuestionError ?i_InvalidRules_ShapeError ?i_InvalidRules_ArithmeticError ?i_InvalidRules_LookupError ?i_InvalidRules_ValueError ?i_InvalidRules_InvalidRules ?i_InvalidRules_InvalidSwitches ?em_InvalidRules FR hmr rfl ?F__law_bag ?F__law_draw ?F__law_one ?F__law_names ?F__law_holds ?F__law_keeps ?F__law_rule ?F__law_panel ?F_is_name ?F_is_switch ?F_is_sign ?F_is_literal ?F_is_rule ?F_check_switches ?F_check_rules ?F__law_is_name ?F__law_is_literal ?F__law_is_rule ?F__law_due ?F__law_bent ?F__law_sort ?F__law_answer ?F_law ?F_Panel___len__ ?I_Panel
    (case a_Panel => k_is)
    (case pg_Panel => k_is)
    (case hd_Panel => k_is)
    (case po_Panel => k_is)
    (case sa_Panel => k_is)
    (case oc_Panel => intro hm cl; refine' Fli.ownC_mk hm cl ?a_5 ?b_5 ?c_5 ?d_5 ?na_5 ?q1_5 ?q2_5 ?k1_5 ?k2_5 ?k3_5 ?k4_5 ?k5_5 ?k6_5 ?n1_5 ?n2_5 ?n3_5 ?n4_5 ?n5_5 ?n6_5; (case q1_5 => k_is); (case na_5 => intro f hf; simp only [List.mem_cons, List.not_mem_nil, or_false] at hf; (rcases hf with rfl | rfl) <;> k_is); all_goals k_is)
    (case T => refine' Fli.txt_mk KX G ?z1_6 ?z2_6 ?z3_6 ?z4_6 ?z5_6 ?z6_6 ?z7_6 ?z8_6 ?z9_6 ?z10_6 ?z11_6 ?z12_6 ?z13_6 ?z14_6; all_goals k_is)
    (case c_LETTERS => refine' Fli.con_str (PySem.W.mg_of KX G ?a_7); (case a_7 => k_is))
    (case c_LITERAL_WORDS => refine' Fli.con_tup (PySem.W.mg_of KX G ?a_8) ?l_8 ?z_8 ?r_8; (case a_8 => k_is); (case l_8 => k_is); (case z_8 => decide); (case r_8 => exact (.cons ⟨_, rfl⟩ (.cons ⟨_, rfl⟩ (.cons ⟨_, rfl⟩ .nil)))))
    (case c_MOST_NAME => refine' Fli.con_int (PySem.W.mg_of KX G ?a_9); (case a_9 => k_is))
    (case c_MOST_RULES => refine' Fli.con_int (PySem.W.mg_of KX G ?a_10); (case a_10 => k_is))
    (case c_MOST_SWITCHES => refine' Fli.con_int (PySem.W.mg_of KX G ?a_11); (case a_11 => k_is))
    (case c_NAME_WORDS => refine' Fli.con_tup (PySem.W.mg_of KX G ?a_12) ?l_12 ?z_12 ?r_12; (case a_12 => k_is); (case l_12 => k_is); (case z_12 => decide); (case r_12 => exact (.cons ⟨_, rfl⟩ (.cons ⟨_, rfl⟩ .nil))))
    (case c_SIGNS => refine' Fli.con_tup (PySem.W.mg_of KX G ?a_13) ?l_13 ?z_13 ?r_13; (case a_13 => k_is); (case l_13 => k_is); (case z_13 => decide); (case r_13 => exact (.cons ⟨_, rfl⟩ (.cons ⟨_, rfl⟩ .nil))))
    (case c_WORDS => refine' Fli.con_tup (PySem.W.mg_of KX G ?a_14) ?l_14 ?z_14 ?r_14; (case a_14 => k_is); (case l_14 => k_is); (case z_14 => decide); (case r_14 => exact (.cons ⟨_, rfl⟩ (.cons ⟨_, rfl⟩ (.cons ⟨_, rfl⟩ (.cons ⟨_, rfl⟩ (.cons ⟨_, rfl⟩ (.cons ⟨_, rfl⟩ .nil))))))))
    (case z_InvalidSwitches => refine' Fli.exT_mk Fli.exB_ValueError KX G ?a_15 ?k_15 ?i_15 ?e_15 ?t_15 ?sa_15 ?ov_15 ?tk_15 ?hd_15 ?ga_15 ?gg_15 ?no_15 ?sB_15 ?sC_15 ?sup_15 ?op_15 ?sN_15 ?top_15 ?iC_15 ?tI_15 ?lk_15 ?hcd_15 ?hk_15 ?hv_15 ?hf_15 ?hl_15 ?hcc_15; (case a_15 => k_is); (case i_15 => kx_is); (case ov_15 => kx_is); (case sup_15 => ks_is); (case top_15 => first | rfl | decide); (case k_15 => k_is); (case e_15 => k_is); (case t_15 => k_is); (case sa_15 => k_is); (case tk_15 => k_is); (case hd_15 => k_is); (case ga_15 => k_is); (case gg_15 => k_is); (case no_15 => k_is); (case sB_15 => k_is); (case sC_15 => k_is); (case op_15 => k_is); (case sN_15 => k_is); (case iC_15 => k_is); (case tI_15 => k_is); (case lk_15 => k_is); (case hcd_15 => k_is); (case hk_15 => k_is); (case hcc_15 => k_is); (case hv_15 => first | rfl | kernel_rfl); (case hf_15 => first | rfl | kernel_rfl); (case hl_15 => first | rfl | kernel_rfl))
    (case n_InvalidSwitches_index => refine' Fli.noF_mk KX G ?a_16 fun _ => ?no_16; (case a_16 => k_is); (case no_16 => k_is))
    (case xc_InvalidSwitches => refine' Fli.excC_mk (c := "InvalidSwitches") KX G ?a_17 ?z1_17 ?z2_17 ?z3_17 ?z4_17 ?z5_17 ?z6_17 ?z7_17 ?z8_17; (case a_17 => k_is); (case z1_17 => k_is); (case z2_17 => k_is); (case z3_17 => k_is); (case z4_17 => k_is); (case z5_17 => k_is); (case z6_17 => k_is); (case z7_17 => k_is); (case z8_17 => k_is))
    (case i_InvalidSwitches_SizeError => refine' Fli.isO_mk (b := false) KX G ?a_18 ?b_18 ?kt_18 rfl; (case a_18 => k_is); (case b_18 => k_is); (case kt_18 => kit_is))
    (case i_InvalidSwitches_QuestionError => refine' Fli.isO_mk (b := false) KX G ?a_19 ?b_19 ?kt_19 rfl; (case a_19 => k_is); (case b_19 => k_is); (case kt_19 => kit_is))
    (case i_InvalidSwitches_ShapeError => refine' Fli.isO_mk (b := true) KX G ?a_20 ?b_20 ?kt_20 rfl; (case a_20 => k_is); (case b_20 => k_is); (case kt_20 => kit_is))
    (case i_InvalidSwitches_ArithmeticError => refine' Fli.isT_mk (b := false) KX G ?a_21 ?b_21 ?kt_21 rfl; (case a_21 => k_is); (case b_21 => k_is); (case kt_21 => kit_is))
    (case i_InvalidSwitches_LookupError => refine' Fli.isT_mk (b := false) KX G ?a_22 ?b_22 ?kt_22 rfl; (case a_22 => k_is); (case b_22 => k_is); (case kt_22 => kit_is))
    (case i_InvalidSwitches_ValueError => refine' Fli.isT_mk (b := true) KX G ?a_23 ?b_23 ?kt_23 rfl; (case a_23 => k_is); (case b_23 => k_is); (case kt_23 => kit_is))
    (case i_InvalidSwitches_InvalidRules => refine' Fli.isO_mk (b := false) KX G ?a_24 ?b_24 ?kt_24 rfl; (case a_24 => k_is); (case b_24 => k_is); (case kt_24 => kit_is))
    (case i_InvalidSwitches_InvalidSwitches => refine' Fli.isO_mk (b := true) KX G ?a_25 ?b_25 ?kt_25 rfl; (case a_25 => k_is); (case b_25 => k_is); (case kt_25 => kit_is))
    (case em_InvalidSwitches => refine' Fli.em_mk (c := "InvalidSwitches") (b1 := true) (b2 := false) (b3 := false) KX G ?a_26 ?a1_26 ?a2_26 ?a3_26 ?y1_26 ?y2_26 ?y3_26 rfl; (case a1_26 => k_is); (case a2_26 => k_is); (case a3_26 => k_is); (case a_26 => k_is); (case y1_26 => kts_exm); (case y2_26 => kts_exm); (case y3_26 => kts_exm))
    (case z_InvalidRules => refine' Fli.exT_mk Fli.exB_ValueError KX G ?a_27 ?k_27 ?i_27 ?e_27 ?t_27 ?sa_27 ?ov_27 ?tk_27 ?hd_27 ?ga_27 ?gg_27 ?no_27 ?sB_27 ?sC_27 ?sup_27 ?op_27 ?sN_27 ?top_27 ?iC_27 ?tI_27 ?lk_27 ?hcd_27 ?hk_27 ?hv_27 ?hf_27 ?hl_27 ?hcc_27; (case a_27 => k_is); (case i_27 => kx_is); (case ov_27 => kx_is); (case sup_27 => ks_is); (case top_27 => first | rfl | decide); (case k_27 => k_is); (case e_27 => k_is); (case t_27 => k_is); (case sa_27 => k_is); (case tk_27 => k_is); (case hd_27 => k_is); (case ga_27 => k_is); (case gg_27 => k_is); (case no_27 => k_is); (case sB_27 => k_is); (case sC_27 => k_is); (case op_27 => k_is); (case sN_27 => k_is); (case iC_27 => k_is); (case tI_27 => k_is); (case lk_27 => k_is); (case hcd_27 => k_is); (case hk_27 => k_is); (case hcc_27 => k_is); (case hv_27 => first | rfl | kernel_rfl); (case hf_27 => first | rfl | kernel_rfl); (case hl_27 => first | rfl | kernel_rfl))
    (case n_InvalidRules_index => refine' Fli.noF_mk KX G ?a_28 fun _ => ?no_28; (case a_28 => k_is); (case no_28 => k_is))
    (case xc_InvalidRules => refine' Fli.excC_mk (c := "InvalidRules") KX G ?a_29 ?z1_29 ?z2_29 ?z3_29 ?z4_29 ?z5_29 ?z6_29 ?z7_29 ?z8_29; (case a_29 => k_is); (case z1_29 => k_is); (case z2_29 => k_is); (case z3_29 => k_is); (case z4_29 => k_is); (case z5_29 => k_is); (case z6_29 => k_is); (case z7_29 => k_is); (case z8_29 => k_is))
    (case i_InvalidRules_SizeError => refine' Fli.isO_mk (b := false) KX G ?a_30 ?b_30 ?kt_30 rfl; (case a_30 => k_is); (case b_30 => k_is); (case kt_30 => kit_is))
    (case i_InvalidRules_QuestionError => refine' Fli.isO_mk (b := false) KX G ?a_31 ?b_31 ?kt_31 rfl; (case a_31 => k_is); (case b_31 => k_is); (case kt_31 => kit_is))
    (case i_InvalidRules_ShapeError => refine' Fli.isO_mk (b := true) KX G ?a_32 ?b_32 ?kt_32 rfl; (case a_32 => k_is); (case b_32 => k_is); (case kt_32 => kit_is))
    (case i_InvalidRules_ArithmeticError => refine' Fli.isT_mk (b := false) KX G ?a_33 ?b_33 ?kt_33 rfl; (case a_33 => k_is); (case b_33 => k_is); (case kt_33 => kit_is))
    (case i_InvalidRules_LookupError => refine' Fli.isT_mk (b := false) KX G ?a_34 ?b_34 ?kt_34 rfl; (case a_34 => k_is); (case b_34 => k_is); (case kt_34 => kit_is))
    (case i_InvalidRules_ValueError => refine' Fli.isT_mk (b := true) KX G ?a_35 ?b_35 ?kt_35 rfl; (case a_35 => k_is); (case b_35 => k_is); (case kt_35 => kit_is))
    (case i_InvalidRules_InvalidRules => refine' Fli.isO_mk (b := true) KX G ?a_36 ?b_36 ?kt_36 rfl; (case a_36 => k_is); (case b_36 => k_is); (case kt_36 => kit_is))
    (case i_InvalidRules_InvalidSwitches => refine' Fli.isO_mk (b := false) KX G ?a_37 ?b_37 ?kt_37 rfl; (case a_37 => k_is); (case b_37 => k_is); (case kt_37 => kit_is))
    (case em_InvalidRules => refine' Fli.em_mk (c := "InvalidRules") (b1 := true) (b2 := false) (b3 := false) KX G ?a_38 ?a1_38 ?a2_38 ?a3_38 ?y1_38 ?y2_38 ?y3_38 rfl; (case a1_38 => k_is); (case a2_38 => k_is); (case a3_38 => k_is); (case a_38 => k_is); (case y1_38 => kts_exm); (case y2_38 => kts_exm); (case y3_38 => kts_exm))
    (case F__law_bag => refine' Fli.funX_mk KX G ?a_40 ?l_40 ?c_40 ?k_40; (case a_40 => k_is); (case l_40 => k_is); (case c_40 => k_is); (case k_40 => k_is))
    (case F__law_draw => refine' Fli.funX_mk KX G ?a_41 ?l_41 ?c_41 ?k_41; (case a_41 => k_is); (case l_41 => k_is); (case c_41 => k_is); (case k_41 => k_is))
    (case F__law_one => refine' Fli.funX_mk KX G ?a_42 ?l_42 ?c_42 ?k_42; (case a_42 => k_is); (case l_42 => k_is); (case c_42 => k_is); (case k_42 => k_is))
    (case F__law_names => refine' Fli.funX_mk KX G ?a_43 ?l_43 ?c_43 ?k_43; (case a_43 => k_is); (case l_43 => k_is); (case c_43 => k_is); (case k_43 => k_is))
    (case F__law_holds => refine' Fli.funX_mk KX G ?a_44 ?l_44 ?c_44 ?k_44; (case a_44 => k_is); (case l_44 => k_is); (case c_44 => k_is); (case k_44 => k_is))
    (case F__law_keeps => refine' Fli.funX_mk KX G ?a_45 ?l_45 ?c_45 ?k_45; (case a_45 => k_is); (case l_45 => k_is); (case c_45 => k_is); (case k_45 => k_is))
    (case F__law_rule => refine' Fli.funX_mk KX G ?a_46 ?l_46 ?c_46 ?k_46; (case a_46 => k_is); (case l_46 => k_is); (case c_46 => k_is); (case k_46 => k_is))
    (case F__law_panel => refine' Fli.funX_mk KX G ?a_47 ?l_47 ?c_47 ?k_47; (case a_47 => k_is); (case l_47 => k_is); (case c_47 => k_is); (case k_47 => k_is))
    (case F_is_name => refine' Fli.funX_mk KX G ?a_48 ?l_48 ?c_48 ?k_48; (case a_48 => k_is); (case l_48 => k_is); (case c_48 => k_is); (case k_48 => k_is))
    (case F_is_switch => refine' Fli.funX_mk KX G ?a_49 ?l_49 ?c_49 ?k_49; (case a_49 => k_is); (case l_49 => k_is); (case c_49 => k_is); (case k_49 => k_is))
    (case F_is_sign => refine' Fli.funX_mk KX G ?a_50 ?l_50 ?c_50 ?k_50; (case a_50 => k_is); (case l_50 => k_is); (case c_50 => k_is); (case k_50 => k_is))
    (case F_is_literal => refine' Fli.funX_mk KX G ?a_51 ?l_51 ?c_51 ?k_51; (case a_51 => k_is); (case l_51 => k_is); (case c_51 => k_is); (case k_51 => k_is))
    (case F_is_rule => refine' Fli.funX_mk KX G ?a_52 ?l_52 ?c_52 ?k_52; (case a_52 => k_is); (case l_52 => k_is); (case c_52 => k_is); (case k_52 => k_is))
    (case F_check_switches => refine' Fli.funX_mk KX G ?a_53 ?l_53 ?c_53 ?k_53; (case a_53 => k_is); (case l_53 => k_is); (case c_53 => k_is); (case k_53 => k_is))
    (case F_check_rules => refine' Fli.funX_mk KX G ?a_54 ?l_54 ?c_54 ?k_54; (case a_54 => k_is); (case l_54 => k_is); (case c_54 => k_is); (case k_54 => k_is))
    (case F__law_is_name => refine' Fli.funX_mk KX G ?a_55 ?l_55 ?c_55 ?k_55; (case a_55 => k_is); (case l_55 => k_is); (case c_55 => k_is); (case k_55 => k_is))
    (case F__law_is_literal => refine' Fli.funX_mk KX G ?a_56 ?l_56 ?c_56 ?k_56; (case a_56 => k_is); (case l_56 => k_is); (case c_56 => k_is); (case k_56 => k_is))
    (case F__law_is_rule => refine' Fli.funX_mk KX G ?a_57 ?l_57 ?c_57 ?k_57; (case a_57 => k_is); (case l_57 => k_is); (case c_57 => k_is); (case k_57 => k_is))
    (case F__law_due => refine' Fli.funX_mk KX G ?a_58 ?l_58 ?c_58 ?k_58; (case a_58 => k_is); (case l_58 => k_is); (case c_58 => k_is); (case k_58 => k_is))
    (case F__law_bent => refine' Fli.funX_mk KX G ?a_59 ?l_59 ?c_59 ?k_59; (case a_59 => k_is); (case l_59 => k_is); (case c_59 => k_is); (case k_59 => k_is))
    (case F__law_sort => refine' Fli.funX_mk KX G ?a_60 ?l_60 ?c_60 ?k_60; (case a_60 => k_is); (case l_60 => k_is); (case c_60 => k_is); (case k_60 => k_is))
    (case F__law_answer => refine' Fli.funX_mk KX G ?a_61 ?l_61 ?c_61 ?k_61; (case a_61 => k_is); (case l_61 => k_is); (case c_61 => k_is); (case k_61 => k_is))
    (case F_law => refine' Fli.funX_mk KX G ?a_62 ?l_62 ?c_62 ?k_62; (case a_62 => k_is); (case l_62 => k_is); (case c_62 => k_is); (case k_62 => k_is))
    (case F_Panel___len__ => refine' Fli.methF_mk ?a_63 ?i_63 ?l_63 ?c_63 ?k_63; (case a_63 => k_is); (case i_63 => k_is); (case l_63 => k_is); (case c_63 => k_is); (case k_63 => k_is))
    (case I_Panel => refine' Fli.initF_mk ?mk_64 ?kc_64 ?a_64 ?i_64 ?l_64 ?cd_64 ?k_64 ?lt_64 ?l0_64; (case mk_64 => k_is); (case kc_64 => k_is); (case a_64 => k_is); (case i_64 => k_is); (case l_64 => k_is); (case cd_64 => k_is); (case k_64 => k_is); (case lt_64 => k_is); (case l0_64 => k_is))

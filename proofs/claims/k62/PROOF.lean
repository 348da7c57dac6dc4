import PyProof.Rows.All
import Wide.All
import OpenK.AllK
import Wide.FinOn
import HandS.ForMost
import HandS.Flow
import HandS.TupAny
import HandS.IsInst
import HandS.OwnEq
import HandS.Lambda
import HandS.MakeKw
import HandS.MakeKwOnly
import HandS.Strs
import HandS.RaiseMore
import HandS.Style
import KE.GoesEnum
import KE.KCallOwn
import PyProof.InstNe
import HandS.ClsMeth
import HandS.Star
import HandS.TryMany
import KE.KUnpackStar
import HandS.DictComp
import KE.KDictDisplayH
import HandS.Deep
import HandS.WideBits
import HandS.SetKeys
import HandS.Iter
import HandS.More
import KE.KRevSl
import HandS.NoneIn
import HandS.Zip
import PyProof.Rows.TupMore
import HandS.HotCalls
import HandS.CallSlots
import HandS.ExcInit
import HandS.WordsExc
import HandS.Nested
import HandS.HeadWalk
import KE.KExcSuper
import KE.KExcMake
import HandS.ExcOwn
import KE.KTryMore
import HandS.ExcIs
import HandS.ExcInitHot
import HandS.EndTab
import HandS.SetFor
import KE.KExcLine
import KE.RegKTryMore
import KE.RegKIsAll
import PyProof.Rows.SetFrom
import HandS.Dict
import KE.KExcInit
import KE.RegKSuper
import PyProof.ListStr
import PyProof.TupleOfStr
import HandS.Replace
import HandS.TupMul
import HandS.SortRule
import PyProof.Rows.SortShellAny
import KE.KDictZip
import PyProof.Rows.StrRev
import KE.KDictList
import KE.GoesZip
import HandS.TryOnly
import HandS.DictEq
import HandS.Spec
import PyProof.EqKinds
import PyProof.FactsAll.subtypes_4
import PySem.Challenge.RW_fliponce_k62_claims_by_hand_and_of_any_k
import PyProof.StrLawsIn
set_option Elab.async false
set_option linter.all false
set_option maxRecDepth 100000
set_option maxHeartbeats 4000000
namespace Fli
open PySem L2
/-- the program and the world: what dicts with tuples for keys hash by -/
class HW where
  P : Program
  w : World
  T : List (Addr × Str) := []
variable [HW]
/-- a dict whose keys are tuples of ints and texts: entries by key, the key's address, the value -/
def DXp (P : Program) (w : World) (a : Addr) (xs : List (List Key × Addr × V)) : Heap → Prop := fun h => xs.length ≤ sizeLine ∧ (a == sysModules) = false ∧ ∃ zs : List (List Key × Addr × Value),
  Paired (fun (p : List Key × Addr × V) (q : List Key × Addr × Value) => p.1 = q.1 ∧ p.2.1 = q.2.1 ∧ RelV p.2.2 q.2.2) xs zs ∧
  ∃ o es ep, h.get? a = some o ∧ o.ExactDict ∧ o.data = .dict es ep ∧ es.toList = zs.map (entryOfKey (tupleKind (mixKind P w))) ∧ (zs.map (·.1)).Nodup
def DX (a : Addr) (xs : List (List Key × Addr × V)) : HO := .ext (DXp HW.P HW.w a xs)

/-! data: what a value is worth, whatever its address -/
inductive D where
  | non | bl (b : Bool) | int (i : Int) | str (x : Str)
  | tup (ds : List D) | lst (ds : List D) | ins (c : Str) (fs : List (Str × D)) | scr (ns : List Int)
  | cls (c : Str) | dic (kvs : List (Key × D)) | dit (kvs : List (List Key × D)) | ptr (a : Addr) | exc (a dx : Addr) (fs : List (Str × D))
  deriving Inhabited

/-- a tuple whose object is known to bear no dict of its own -/
def FT (ob : Obj) : Prop := ob.cls = .type "tuple" ∧ ob.dict = none
def SqF (K : PySem.W.Frag) (W : Hp) (a : Addr) (xs : List V) : Prop :=
  (∃ ob, W a = some (.frz ob (.tup xs)) ∧ FT ob) ∨
  (∃ o its n, K.lookup a = some o ∧ o.cls = .type "tuple" ∧ o.dict = none ∧ o.data = .seq its n ∧ its.size ≤ sizeLine ∧ Vals xs its.toList)
theorem SqF.t {K : PySem.W.Frag} {W : Hp} {a : Addr} {xs : List V} (h : SqF K W a xs) : SqT K W a xs := by
  rcases h with ⟨ob, h, _⟩ | ⟨o, its, n, h1, h2, _, h3, h4, h5⟩
  · exact .inl (.inr ⟨ob, h⟩)
  · exact .inr ⟨o, its, n, h1, h2, h3, h4, h5⟩

mutual
inductive DR (K : PySem.W.Frag) (mg : Str → Option Value) (W : Hp) : V → D → Prop
  | non : DR K mg W .non .non
  | bl (b : Bool) : DR K mg W (.bl b) (.bl b)
  | int (i : Int) : DR K mg W (.int i) (.int i)
  | str (x : Str) : DR K mg W (.str x) (.str x)
  | tup {a : Addr} {vs : List V} {ds : List D} : SqF K W a vs → DRs K mg W vs ds → DR K mg W (.ref a) (.tup ds)
  | lst {a : Addr} {vs : List V} {ds : List D} : W a = some (.lst vs) → DRs K mg W vs ds → DR K mg W (.ref a) (.lst ds)
  | scr {a : Addr} {ns : List Int} : SqL K W a (ns.map V.int) → DR K mg W (.ref a) (.scr ns)
  | ins {a C dx : Addr} {c : Str} {gs : List (Str × V)} {fs : List (Str × D)} : mg c = some (.ref C) → W a = some (.ins C dx gs) → DFs K mg W gs fs → DR K mg W (.ref a) (.ins c fs)
  | cls {C : Addr} {c : Str} : mg c = some (.ref C) → DR K mg W (.ref C) (.cls c)
  | dic {a : Addr} {gs : List (Key × V)} {kvs : List (Key × D)} : Rd W a (.dK gs) → DKs K mg W gs kvs → DR K mg W (.ref a) (.dic kvs)
  | dit {a : Addr} {gs : List (List Key × Addr × V)} {kvs : List (List Key × D)} : W a = some (DX a gs) → DTs K mg W gs kvs → DR K mg W (.ref a) (.dit kvs)
  | ptr {a : Addr} : DR K mg W (.ref a) (.ptr a)
  | exc {a dx : Addr} {gs : List (Str × V)} {fs : List (Str × D)} : W dx = some (.xd gs) → DFs K mg W gs fs → DR K mg W (.ref a) (.exc a dx fs)
inductive DRs (K : PySem.W.Frag) (mg : Str → Option Value) (W : Hp) : List V → List D → Prop
  | nil : DRs K mg W [] []
  | cons {v : V} {vs : List V} {d : D} {ds : List D} : DR K mg W v d → DRs K mg W vs ds → DRs K mg W (v :: vs) (d :: ds)
inductive DFs (K : PySem.W.Frag) (mg : Str → Option Value) (W : Hp) : List (Str × V) → List (Str × D) → Prop
  | nil : DFs K mg W [] []
  | cons {n : Str} {v : V} {gs : List (Str × V)} {d : D} {fs : List (Str × D)} : DR K mg W v d → DFs K mg W gs fs → DFs K mg W ((n, v) :: gs) ((n, d) :: fs)
inductive DKs (K : PySem.W.Frag) (mg : Str → Option Value) (W : Hp) : List (Key × V) → List (Key × D) → Prop
  | nil : DKs K mg W [] []
  | cons {n : Key} {v : V} {gs : List (Key × V)} {d : D} {fs : List (Key × D)} : DR K mg W v d → DKs K mg W gs fs → DKs K mg W ((n, v) :: gs) ((n, d) :: fs)
inductive DTs (K : PySem.W.Frag) (mg : Str → Option Value) (W : Hp) : List (List Key × Addr × V) → List (List Key × D) → Prop
  | nil : DTs K mg W [] []
  | cons {n : List Key} {b : Addr} {v : V} {gs : List (List Key × Addr × V)} {d : D} {fs : List (List Key × D)} : SqF K W b (n.map kV) → DR K mg W v d → DTs K mg W gs fs → DTs K mg W ((n, b, v) :: gs) ((n, d) :: fs)
end

/-- what is known stays known -/
def Le (W W' : Hp) : Prop := ∀ a o, W a = some o → W' a = some o
theorem Le.refl (W : Hp) : Le W W := fun _ _ h => h
theorem Le.trans {A B C : Hp} (x : Le A B) (y : Le B C) : Le A C := fun a o h => y a o (x a o h)
theorem Le.upd {W : Hp} {p : Addr} {o : HO} (h : W p = none) : Le W (upd W p o) := fun a u e => by
  rw [upd_ne (ne_of_none e h)]; exact e

section
variable {K : PySem.W.Frag} {mg : Str → Option Value} {W W' : Hp}
theorem sl_le {a : Addr} {vs : List V} (e : Le W W') (h : SqL K W a vs) : SqL K W' a vs := Same.seq e h
theorem sf_le {a : Addr} {vs : List V} (e : Le W W') (h : SqF K W a vs) : SqF K W' a vs := by
  rcases h with ⟨ob, h, f⟩ | h
  · exact .inl ⟨ob, e _ _ h, f⟩
  · exact .inr h
theorem st_le {a : Addr} {vs : List V} (e : Le W W') (h : SqF K W a vs) : SqT K W' a vs := (sf_le e h).t
mutual
theorem DR.le (e : Le W W') : ∀ {v : V} {d : D}, DR K mg W v d → DR K mg W' v d
  | _, _, .non => .non
  | _, _, .bl b => .bl b
  | _, _, .int i => .int i
  | _, _, .str x => .str x
  | _, _, .tup s r => .tup (sf_le e s) (DRs.le e r)
  | _, _, .lst s r => .lst (e _ _ s) (DRs.le e r)
  | _, _, .scr s => .scr (sl_le e s)
  | _, _, .ins m h r => .ins m (e _ _ h) (DFs.le e r)
  | _, _, .cls m => .cls m
  | _, _, .dic h r => .dic (h.imp (e _ _) fun ⟨o, z⟩ => ⟨o, e _ _ z⟩) (DKs.le e r)
  | _, _, .dit h r => .dit (e _ _ h) (DTs.le e r)
  | _, _, .ptr => .ptr
  | _, _, .exc h r => .exc (e _ _ h) (DFs.le e r)
theorem DRs.le (e : Le W W') : ∀ {vs : List V} {ds : List D}, DRs K mg W vs ds → DRs K mg W' vs ds
  | _, _, .nil => .nil
  | _, _, .cons h r => .cons (DR.le e h) (DRs.le e r)
theorem DFs.le (e : Le W W') : ∀ {gs : List (Str × V)} {fs : List (Str × D)}, DFs K mg W gs fs → DFs K mg W' gs fs
  | _, _, .nil => .nil
  | _, _, .cons h r => .cons (DR.le e h) (DFs.le e r)
theorem DKs.le (e : Le W W') : ∀ {gs : List (Key × V)} {fs : List (Key × D)}, DKs K mg W gs fs → DKs K mg W' gs fs
  | _, _, .nil => .nil
  | _, _, .cons h r => .cons (DR.le e h) (DKs.le e r)
theorem DTs.le (e : Le W W') : ∀ {gs : List (List Key × Addr × V)} {fs : List (List Key × D)}, DTs K mg W gs fs → DTs K mg W' gs fs
  | _, _, .nil => .nil
  | _, _, .cons s h r => .cons (sf_le e s) (DR.le e h) (DTs.le e r)
end
theorem DRs.len : ∀ {vs : List V} {ds : List D}, DRs K mg W vs ds → vs.length = ds.length
  | _, _, .nil => rfl
  | _, _, .cons _ r => by simp [DRs.len r]
theorem DRs.get : ∀ {vs : List V} {ds : List D} {i : Nat} {d : D}, DRs K mg W vs ds → ds[i]? = some d → ∃ v, vs[i]? = some v ∧ DR K mg W v d
  | _, _, _, _, .nil, e => by simp at e
  | _, _, 0, _, .cons h _, e => by simp at e; subst e; exact ⟨_, rfl, h⟩
  | _, _, i + 1, _, .cons _ r, e => by
    obtain ⟨v, a, b⟩ := DRs.get (i := i) r (by simpa using e)
    exact ⟨v, by simpa using a, b⟩
theorem DRs.get' : ∀ {vs : List V} {ds : List D} {i : Nat} {v : V}, DRs K mg W vs ds → vs[i]? = some v → ∃ d, ds[i]? = some d ∧ DR K mg W v d
  | _, _, _, _, .nil, e => by simp at e
  | _, _, 0, _, .cons h _, e => by simp at e; subst e; exact ⟨_, rfl, h⟩
  | _, _, i + 1, _, .cons _ r, e => by
    obtain ⟨v, a, b⟩ := DRs.get' (i := i) r (by simpa using e)
    exact ⟨v, by simpa using a, b⟩
theorem DRs.app : ∀ {vs us : List V} {ds es : List D}, DRs K mg W vs ds → DRs K mg W us es → DRs K mg W (vs ++ us) (ds ++ es)
  | _, _, _, _, .nil, s => s
  | _, _, _, _, .cons h r, s => .cons h (DRs.app r s)
theorem DRs.take : ∀ {vs : List V} {ds : List D} (n : Nat), DRs K mg W vs ds → DRs K mg W (vs.take n) (ds.take n)
  | _, _, 0, _ => .nil
  | _, _, _ + 1, .nil => .nil
  | _, _, n + 1, .cons h r => .cons h (DRs.take n r)
theorem DRs.drop : ∀ {vs : List V} {ds : List D} (n : Nat), DRs K mg W vs ds → DRs K mg W (vs.drop n) (ds.drop n)
  | _, _, 0, r => r
  | _, _, _ + 1, .nil => .nil
  | _, _, n + 1, .cons _ r => DRs.drop n r
theorem DRs.set {v : V} {d : D} (h : DR K mg W v d) : ∀ {vs : List V} {ds : List D} (n : Nat), DRs K mg W vs ds → DRs K mg W (vs.set n v) (ds.set n d)
  | _, _, _, .nil => .nil
  | _, _, 0, .cons _ r => .cons h r
  | _, _, n + 1, .cons g r => .cons g (DRs.set h n r)
end

/-! what a slot holds: data, or an object of its own that no one else knows -/
inductive O where
  | lst (ds : List D) | obj (c : Str) (fs : List (Str × D)) | dic (kvs : List (Key × D)) | dit (kvs : List (List Key × D))
inductive A where
  | d (x : D) | own (o : O)
abbrev S := List (Option A)
def O.d : O → D
  | .lst ds => .lst ds
  | .obj c fs => .ins c fs
  | .dic kvs => .dic kvs
  | .dit kvs => .dit kvs

def OR (K : PySem.W.Frag) (mg : Str → Option Value) (H W : Hp) (a : Addr) (o : O) : Prop :=
  W a = none ∧ match o with
    | .lst ds => ∃ vs, H a = some (.lst vs) ∧ DRs K mg W vs ds
    | .obj c fs => ∃ C dx gs, mg c = some (.ref C) ∧ H a = some (.ins C dx gs) ∧ DFs K mg W gs fs
    | .dic kvs => ∃ gs, H a = some (.dK gs) ∧ DKs K mg W gs kvs
    | .dit kvs => ∃ gs, H a = some (DX a gs) ∧ DTs K mg W gs kvs
def Own (sd : S) (σ : L2.St) (a : Addr) : Prop := ∃ (i : Nat) (o : O), sd[i]? = some (some (.own o)) ∧ σ[i]? = some (some (.ref a))

/-- all but tables of code objects -/
def nt : HO → Bool
  | .tbl _ => false
  | _ => true
/-- neither a table nor a code object -/
def mt (u : HO) : Prop := nt u = true ∧ ∀ c q, u ≠ LamX.CodeO c q
theorem dx_code {a c : Addr} {q : Str} {xs : List (List Key × Addr × V)} : DX a xs ≠ LamX.CodeO c q := fun z => by
  unfold DX LamX.CodeO at z
  have e := HO.ext.inj z
  let g : Heap := { objs := Array.replicate (c + 1) { cls := .none, data := .fields #[.none, .str q 0] } }
  have e1 : g.get? c = some { cls := .none, data := .fields #[.none, .str q 0] } := by
    show (match g.objs[c]? with | some ⟨_, _, .freed, _⟩ => none | o => o) = _
    rw [show g.objs[c]? = some { cls := .none, data := .fields #[.none, .str q 0] } from by simp [g, Array.getElem?_replicate]]
  have e2 := (congrFun e g).mpr ⟨_, #[.none, .str q 0], 0, e1, rfl, rfl⟩
  obtain ⟨_, _, _, _, o, es, ep, h1, _, h2, _⟩ := e2
  have h3 : (match g.objs[a]? with | some ⟨_, _, .freed, _⟩ => none | o => o) = some o := h1
  simp only [g, Array.getElem?_replicate] at h3
  split at h3
  · cases h3
  · split at h3
    · cases h3
      cases h2
    · cases h3
theorem mt_lst {xs : List V} : mt (.lst xs) := ⟨rfl, fun _ _ z => nomatch z⟩
theorem mt_dK {xs : List (Key × V)} : mt (.dK xs) := ⟨rfl, fun _ _ z => nomatch z⟩
theorem mt_ins {C dx : Addr} {fs : List (Str × V)} : mt (.ins C dx fs) := ⟨rfl, fun _ _ z => nomatch z⟩
theorem mt_dx {a : Addr} {xs : List (List Key × Addr × V)} : mt (DX a xs) := ⟨rfl, fun _ _ => dx_code⟩
theorem mt_at {H : Hp} {p : Addr} {u : HO} (e : H p = some u) (m : mt u) : ∀ v, H p = some v → mt v := fun v h => by rw [e] at h; cases h; exact m
/-- the tables of the defs that make lambdas, their code objects -/
def TabW (H W : Hp) : Prop := (∀ a ps, W a ≠ some (.tbl ps)) ∧ (∀ p ∈ HW.T, W p.1 = none) ∧ LamX.Tabs HW.T H
theorem upd_nt {W : Hp} {p : Addr} {o : HO} (nu : ∀ ps, o ≠ .tbl ps) (h : ∀ a ps, W a ≠ some (.tbl ps)) : ∀ a ps, upd W p o a ≠ some (.tbl ps) := fun a ps z => by
  by_cases e : a = p
  · rw [e, upd_same] at z; exact nu ps (Option.some.inj z)
  · rw [upd_ne e] at z; exact h a ps z
theorem TabW.step {H W H' W' : Hp} (t : TabW H W) (hn : (∀ a ps, W a ≠ some (.tbl ps)) → ∀ a ps, W' a ≠ some (.tbl ps)) (h : ∀ a ps, H a = some (.tbl ps) → W a = none → H' a = some (.tbl ps) ∧ W' a = none) (hc : ∀ c q, H c = some (LamX.CodeO c q) → H' c = some (LamX.CodeO c q)) : TabW H' W' :=
  ⟨hn t.1, fun p hp => by
    obtain ⟨ps, h1, _⟩ := t.2.2 p hp
    exact (h _ _ h1 (t.2.1 p hp)).2, fun p hp => by
    obtain ⟨ps, h1, h2, h3⟩ := t.2.2 p hp
    refine ⟨ps, (h _ _ h1 (t.2.1 p hp)).1, h2, fun pos cv hv => ?_⟩
    obtain ⟨c, e1, e2⟩ := h3 pos cv hv
    exact ⟨c, e1, hc _ _ e2⟩⟩
theorem TabW.upd {H W : Hp} (t : TabW H W) {p : Addr} {o : HO} (h : ∀ u, H p = some u → mt u) : TabW (upd H p o) W := t.step (fun z => z) (fun a ps e w => by
    rw [upd_ne fun z => by rw [z] at e; exact Bool.noConfusion (h _ e).1]; exact ⟨e, w⟩) fun c q e => by
  rw [upd_ne fun z => by rw [z] at e; exact (h _ e).2 c q (by rw [z])]; exact e
structure St (K : PySem.W.Frag) (mg : Str → Option Value) (sd : S) (σ : L2.St) (H W : Hp) : Prop where
  tabs : TabW H W
  le : Le W H
  len : sd.length = σ.length
  dat : ∀ (i : Nat) (d : D), sd[i]? = some (some (.d d)) → ∃ v, σ[i]? = some (some v) ∧ DR K mg W v d
  own : ∀ (i : Nat) (o : O), sd[i]? = some (some (.own o)) → ∃ a, σ[i]? = some (some (.ref a)) ∧ OR K mg H W a o
  inj : ∀ (i j : Nat) (o u : O) (a : Addr), sd[i]? = some (some (.own o)) → sd[j]? = some (some (.own u)) → σ[i]? = some (some (.ref a)) → σ[j]? = some (some (.ref a)) → i = j

structure Kp (sd : S) (σ : L2.St) (H W : Hp) (sd' : S) (σ' : L2.St) (H' W' : Hp) : Prop where
  le : Le W W'
  keep : ∀ a o, H a = some o → ¬ Own sd σ a → nt o = true → H' a = some o
  new : ∀ a, W a = none → H a ≠ none → ¬ Own sd σ a → W' a = none
  own : ∀ a, Own sd' σ' a → Own sd σ a ∨ H a = none
  there : ∀ a, H a ≠ none → H' a ≠ none

theorem OR.mt {K : PySem.W.Frag} {mg : Str → Option Value} {H W : Hp} {a : Addr} {o : O} (r : OR K mg H W a o) (u : HO) (e : H a = some u) : Fli.mt u := by
  obtain ⟨_, r⟩ := r
  cases o with
  | lst ds => obtain ⟨vs, q, _⟩ := r; rw [q] at e; cases e; exact mt_lst
  | obj c fs => obtain ⟨C, dx, gs, _, q, _⟩ := r; rw [q] at e; cases e; exact mt_ins
  | dic kvs => obtain ⟨gs, q, _⟩ := r; rw [q] at e; cases e; exact mt_dK
  | dit kvs => obtain ⟨gs, q, _⟩ := r; rw [q] at e; cases e; exact mt_dx
section
variable {K : PySem.W.Frag} {mg : Str → Option Value} {sd sd1 sd2 : S} {σ σ1 σ2 : L2.St} {H H1 H2 W W1 W2 : Hp}
theorem Kp.refl : Kp sd σ H W sd σ H W := ⟨Le.refl _, fun _ _ h _ _ => h, fun _ h _ _ => h, fun _ h => .inl h, fun _ h => h⟩
theorem Kp.trans (a : Kp sd σ H W sd1 σ1 H1 W1) (b : Kp sd1 σ1 H1 W1 sd2 σ2 H2 W2) : Kp sd σ H W sd2 σ2 H2 W2 := by
  have no : ∀ p, H p ≠ none → ¬ Own sd σ p → ¬ Own sd1 σ1 p := fun p h n o => (a.own p o).elim n fun z => h z
  refine ⟨a.le.trans b.le, fun p o h n t => ?_, fun p h h' n => ?_, fun p o => ?_, fun p h => b.there p (a.there p h)⟩
  · exact b.keep p o (a.keep p o h n t) (no p (by rw [h]; simp) n) t
  · exact b.new p (a.new p h h' n) (a.there p h') (no p h' n)
  · rcases b.own p o with z | z
    · exact a.own p z
    · refine .inr ?_
      cases q : H p with
      | none => rfl
      | some u => exact absurd z (a.there p (by rw [q]; simp))
end

/-! rules that make tuples, with what is known of their objects -/
section
open PySem.Spec PyProof.Rows
variable {X : Cx}
theorem ft_new {its : Array Value} : FT ({ cls := .type "tuple", data := .seq its } : Obj) := ⟨rfl, rfl⟩
theorem lay_F {pins : List (Addr × Obj)} {σ : L2.St} {H : Hp} {s : Shared} {xs : List V} {us : List Value} (I : Inv X pins σ H s) (r : Vals xs us) (z : xs.length ≤ sizeLine) :
    Inv X pins σ (upd H s.heap.objs.size (.frz { cls := .type "tuple", data := .seq us.toArray } (.tup xs))) { s with heap := s.heap.push { cls := .type "tuple", data := .seq us.toArray } } :=
  I.laid (t' := s.toks) (fun _ _ e => Heap.get?_push_of_some _ e) (Nat.le_refl _) ⟨Heap.get?_push_size _ rfl, z, us, r, IsTup.new _ _⟩
def tTupF (t : TA) : TE := fun σ H Q => t σ H fun xs H1 => xs.length ≤ sizeLine ∧ ∀ p ob, H1 p = none → FT ob → Q (.ref p) (upd H1 p (.frz ob (.tup xs)))
theorem pe_tupF {es : List Expr} {t : TA} {pos : Pos} {k : Nat} (h : PA X es t) : PE X (.Tuple es k pos) (tTupF t) := by
  constructor
  intro pins s σ H Q I hq
  refine wpAny_Tuple_spliced (thn (h.run pos pins s σ H _ I hq) ?_)
  rintro us s1 ⟨xs, H1, I1, r, z, q⟩
  exact ⟨by rw [← r.length]; exact z, .ref s1.heap.objs.size, _, lay_F I1 r z, rfl, q _ _ (I1.hok.fresh (Nat.le_refl _)) ft_new⟩
def rTupF (K : PySem.W.Frag) : List V → Hp → VK → Prop := fun xs H Q => ∃ p ys, xs = [.ref p] ∧
  ((SqL K H p ys ∧ ∀ l ob, H l = none → FT ob → Q (.ref l) (upd H l (.frz ob (.tup ys)))) ∨ (SqT K H p ys ∧ Q (.ref p) H))
theorem call_tupleF : CallR X (.type "tuple") (rTupF X.K) := by
  intro pins s σ H xs us Q I r h
  obtain ⟨p, ys, rfl, h⟩ := h
  obtain ⟨u, rfl, rx⟩ := vals1 r
  cases rx
  rcases h with ⟨hq, q⟩ | ⟨hq, q⟩
  · obtain ⟨its, r', pl, hz⟩ := I.list hq
    have hlen := r'.length
    refine call_tuple_list pl.isList (fun h' kp => ?_) (by simp only [List.size_toArray] <;> omega)
    have I1 : Inv X pins σ H { s with heap := h' } := I.kept (t' := s.toks) kp
    exact ⟨.ref h'.objs.size, _, lay_F I1 r' hz, rfl, q _ _ (I1.hok.fresh (Nat.le_refl _)) ft_new⟩
  · obtain ⟨its, r', pl, hz⟩ := I.tuple hq
    exact call_tuple_same pl ⟨.ref p, H, I, rfl, q⟩
def rSlF (K : PySem.W.Frag) : V → Option Int → Option Int → Hp → VK → Prop := fun x lo hi H Q => ∃ a xs, x = .ref a ∧ SqT K H a xs ∧
  (HT.sIx xs.length 0 lo = 0 ∧ HT.sIx xs.length xs.length hi = xs.length → Q (.ref a) H) ∧
  (¬ (HT.sIx xs.length 0 lo = 0 ∧ HT.sIx xs.length xs.length hi = xs.length) → ∀ p ob, H p = none → FT ob → Q (.ref p) (upd H p (.frz ob (.tup (cutV xs lo hi)))))
theorem sl_tupF : SlR X (rSlF X.K) := by
  intro pins s σ H x v vl vu lo hi sl Q I rx hs pl pu h
  obtain ⟨a, xs, rfl, hx, q1, q2⟩ := h
  cases rx
  obtain ⟨its, r, ht, hz⟩ := I.tuple hx
  have hlen : its.toArray.size = xs.length := by rw [List.size_toArray]; exact r.length.symm
  refine ⟨"tuple", _, PyProof.Rows.slot_tuple_getitem.lookup, ht.typeIs, ?_⟩
  by_cases hw : HT.sIx xs.length 0 lo = 0 ∧ HT.sIx xs.length xs.length hi = xs.length
  · exact getItem_tuple_whole ht hs pl pu (by rw [hlen]; exact hw) ⟨.ref a, H, I, rfl, q1 hw⟩
  · refine HT.getItem_tuple_cut ht hs pl pu (by rw [hlen]; exact hw) ?_ (by rw [hlen]; exact hz)
    rw [hlen]
    have rc := (r.drop (HT.sIx xs.length 0 lo)).take (HT.sIx xs.length xs.length hi - HT.sIx xs.length 0 lo)
    exact ⟨.ref s.heap.objs.size, _, lay_F I (xs := cutV xs lo hi) rc (Nat.le_trans (cutV_length xs lo hi) hz), rfl, q2 hw _ _ (I.hok.fresh (Nat.le_refl _)) ft_new⟩
def rCatF (K : PySem.W.Frag) : R2 := fun x y H Q => ∃ a b xs ys, x = .ref a ∧ y = .ref b ∧ SqT K H a xs ∧ SqT K H b ys ∧ xs.length + ys.length ≤ sizeLine ∧
  (xs = [] → Q (.ref b) H) ∧ (xs ≠ [] → ys = [] → Q (.ref a) H) ∧ (xs ≠ [] → ys ≠ [] → ∀ p ob, H p = none → FT ob → Q (.ref p) (upd H p (.frz ob (.tup (xs ++ ys)))))
theorem op_catF : OpR X (binaryOp .Add) (rCatF X.K) := by
  intro pins s σ H x y v u Q I rx ry h
  obtain ⟨a, b, xs, ys, rfl, rfl, ha, hb, hz, q0, q1, q2⟩ := h
  cases rx
  cases ry
  obtain ⟨its, r1, p1, _⟩ := I.tuple ha
  obtain ⟨its2, r2, p2, _⟩ := I.tuple hb
  by_cases hx : xs = []
  · subst hx
    cases r1
    exact cat_tup0 p1 p2 ⟨.ref b, H, I, rfl, q0 rfl⟩
  · have nz : ∀ {zs : List V} {ws : List Value}, Vals zs ws → ws = [] → zs = [] := fun r e => by subst e; cases r; rfl
    have zn : ∀ {zs : List V} {ws : List Value}, Vals zs ws → zs = [] → ws = [] := fun r e => by subst e; cases r; rfl
    refine HT.cat_tup p1 p2 (fun z => hx (nz r1 z)) (fun z => ⟨.ref a, H, I, rfl, q1 hx (nz r2 z)⟩) (fun z => ?_) (by rw [← r1.length, ← r2.length]; exact hz)
    exact ⟨.ref s.heap.objs.size, _, lay_F I (r1.append r2) (by rw [List.length_append]; exact hz), rfl, q2 hx (fun w => z (zn r2 w)) _ _ (I.hok.fresh (Nat.le_refl _)) ft_new⟩
end
end Fli
set_option Elab.async false
set_option linter.all false
set_option maxRecDepth 100000
set_option maxHeartbeats 4000000
namespace Fli
open PySem L2
variable [HW]

theorem PE.imp {X : Cx} {e : Expr} {t t' : TE} (h : PE X e t) (f : ∀ σ H Q, t' σ H Q → t σ H Q) : PE X e t' := ⟨fun p s σ H Q I q => h.run p s σ H Q I (f σ H Q q)⟩
theorem PT.imp {X : Cx} {e : Expr} {t t' : TT} (h : PT X e t) (f : ∀ σ H Q, t' σ H Q → t σ H Q) : PT X e t' := ⟨fun p s σ H Q I q => h.run p s σ H Q I (f σ H Q q)⟩
theorem PW.imp {X : Cx} {e : Expr} {t t' : TT} (h : PW X e t) (f : ∀ σ H Q, t' σ H Q → t σ H Q) : PW X e t' := ⟨fun z p s σ H Q I q => h.run z p s σ H Q I (f σ H Q q)⟩
theorem PA.imp {X : Cx} {e : List Expr} {t t' : TA} (h : PA X e t) (f : ∀ σ H Q, t' σ H Q → t σ H Q) : PA X e t' := ⟨fun z p s σ H Q I q => h.run z p s σ H Q I (f σ H Q q)⟩
theorem PO.imp {X : Cx} {e : Option Expr} {t t' : TO} (h : PO X e t) (f : ∀ σ H Q, t' σ H Q → t σ H Q) : PO X e t' := ⟨fun p s σ H Q I q => h.run p s σ H Q I (f σ H Q q)⟩
theorem PS.imp {X : Cx} {e : Stmt} {t t' : TS} (h : PS X e t) (f : ∀ D σ H, t' D σ H → t D σ H) : PS X e t' := ⟨fun p s σ H D I q => h.run p s σ H D I (f D σ H q)⟩
theorem PSs.imp {X : Cx} {e : List Stmt} {t t' : TS} (h : PSs X e t) (f : ∀ D σ H, t' D σ H → t D σ H) : PSs X e t' := ⟨fun p s σ H D I q => h.run p s σ H D I (f D σ H q)⟩

/-! how a mirror runs -/
abbrev M (α : Type) := S → Option (α × S)
def bindM {α β : Type} (m : M α) (f : α → M β) : M β := fun s => (m s).bind fun p => f p.1 p.2
def retM {α : Type} (a : α) : M α := fun s => some (a, s)
def optM {α : Type} (o : Option α) : M α := fun s => o.map fun a => (a, s)
theorem bindM_some {α β : Type} {m : M α} {f : α → M β} {s s' : S} {b : β} (h : bindM m f s = some (b, s')) : ∃ a s1, m s = some (a, s1) ∧ f a s1 = some (b, s') := by
  unfold bindM at h
  cases e : m s with
  | none => rw [e] at h; cases h
  | some p => rw [e] at h; exact ⟨p.1, p.2, rfl, h⟩
theorem optM_some {α : Type} {o : Option α} {s s' : S} {a : α} (h : optM o s = some (a, s')) : o = some a ∧ s' = s := by
  unfold optM at h
  cases o with
  | none => cases h
  | some b => cases h; exact ⟨rfl, rfl⟩

section
variable (K : PySem.W.Frag) (mg : Str → Option Value)
/-- a mirror's run from the state at hand, ending in data | in an object of its own | in a bool | in data, one by one | in a part of a slice -/
def tD (m : M D) : TE := fun σ H Q => ∃ sd W d sd', St K mg sd σ H W ∧ m sd = some (d, sd') ∧ ∀ v H' W', St K mg sd' σ H' W' → Kp sd σ H W sd' σ H' W' → DR K mg W' v d → Q v H'
def tO (m : M O) : TE := fun σ H Q => ∃ sd W o sd', St K mg sd σ H W ∧ m sd = some (o, sd') ∧ ∀ p H' W', St K mg sd' σ H' W' → Kp sd σ H W sd' σ H' W' → OR K mg H' W' p o → ¬ Own sd' σ p → H p = none → Q (.ref p) H'
def tB (m : M Bool) : TT := fun σ H Q => ∃ sd W d sd', St K mg sd σ H W ∧ m sd = some (d, sd') ∧ ∀ H' W', St K mg sd' σ H' W' → Kp sd σ H W sd' σ H' W' → Q d H'
def tL (m : M (List D)) : TA := fun σ H Q => ∃ sd W d sd', St K mg sd σ H W ∧ m sd = some (d, sd') ∧ ∀ v H' W', St K mg sd' σ H' W' → Kp sd σ H W sd' σ H' W' → DRs K mg W' v d → Q v H'
def tP (m : M (Option Int)) : TO := fun σ H Q => ∃ sd W d sd', St K mg sd σ H W ∧ m sd = some (d, sd') ∧ ∀ H' W', St K mg sd' σ H' W' → Kp sd σ H W sd' σ H' W' → Q d H'
end
abbrev DE (X : Cx) (e : Expr) (m : M D) : Prop := PE X e (tD X.K X.mg m)
abbrev OE (X : Cx) (e : Expr) (m : M O) : Prop := PE X e (tO X.K X.mg m)
abbrev BT (X : Cx) (e : Expr) (m : M Bool) : Prop := PT X e (tB X.K X.mg m)
abbrev BW (X : Cx) (e : Expr) (m : M Bool) : Prop := PW X e (tB X.K X.mg m)
abbrev LA (X : Cx) (es : List Expr) (m : M (List D)) : Prop := PA X es (tL X.K X.mg m)
abbrev IP (X : Cx) (e : Option Expr) (m : M (Option Int)) : Prop := PO X e (tP X.K X.mg m)

section
variable {K : PySem.W.Frag} {mg : Str → Option Value} {sd : S} {σ : L2.St} {H H' W W' : Hp}
/-- new things may come, seen or unseen, nothing else changes -/
theorem St.growN (h : St K mg sd σ H W) (a : Le W W') (b : Le W' H') (c : ∀ a o, H a = some o → nt o = true → H' a = some o) (th : ∀ a, H a ≠ none → H' a ≠ none) (n : ∀ a, W a = none → H a ≠ none → W' a = none) (tb : TabW H' W') : St K mg sd σ H' W' ∧ Kp sd σ H W sd σ H' W' := by
  refine ⟨⟨tb, b, h.len, fun i d e => ?_, fun i o e => ?_, h.inj⟩, ⟨a, fun p o q _ t => c p o q t, fun p q r _ => n p q r, fun p q => .inl q, th⟩⟩
  · obtain ⟨v, e1, r⟩ := h.dat i d e
    exact ⟨v, e1, r.le a⟩
  · obtain ⟨p, e1, w, r⟩ := h.own i o e
    cases o with
    | lst ds =>
      obtain ⟨vs, r1, r2⟩ := r
      exact ⟨p, e1, n p w (by rw [r1]; simp), vs, c _ _ r1 rfl, r2.le a⟩
    | obj cc fs =>
      obtain ⟨C, dx, gs, r0, r1, r2⟩ := r
      exact ⟨p, e1, n p w (by rw [r1]; simp), C, dx, gs, r0, c _ _ r1 rfl, r2.le a⟩
    | dic kvs =>
      obtain ⟨gs, r1, r2⟩ := r
      exact ⟨p, e1, n p w (by rw [r1]; simp), gs, c _ _ r1 rfl, r2.le a⟩
    | dit kvs =>
      obtain ⟨gs, r1, r2⟩ := r
      exact ⟨p, e1, n p w (by rw [r1]; simp), gs, c _ _ r1 rfl, r2.le a⟩
theorem St.grow (h : St K mg sd σ H W) (a : Le W W') (b : Le W' H') (c : Le H H') (hn : (∀ a ps, W a ≠ some (.tbl ps)) → ∀ a ps, W' a ≠ some (.tbl ps)) (n : ∀ a, W a = none → H a ≠ none → W' a = none) : St K mg sd σ H' W' ∧ Kp sd σ H W sd σ H' W' :=
  h.growN a b (fun p o q _ => c p o q) (fun p q => by
    cases e : H p with
    | none => exact absurd e q
    | some o => rw [c p o e]; simp) n (h.tabs.step hn (fun p ps e w => ⟨c p _ e, n p w (by rw [e]; simp)⟩) fun x q e => c _ _ e)
theorem St.free (h : St K mg sd σ H W) {p : Addr} (e : H p = none) : W p = none := by
  cases q : W p with
  | none => rfl
  | some o => rw [h.le p o q] at e; cases e
/-- one new thing, seen by all -/
theorem St.newV (h : St K mg sd σ H W) {p : Addr} (e : H p = none) (o : HO) (no : ∀ ps, o ≠ .tbl ps := by exact fun _ z => nomatch z) : St K mg sd σ (upd H p o) (upd W p o) ∧ Kp sd σ H W sd σ (upd H p o) (upd W p o) := by
  refine h.grow (Le.upd (h.free e)) (fun a u q => ?_) (Le.upd e) (upd_nt no) fun a q r => ?_
  · by_cases z : a = p
    · subst z; rw [upd_same] at q ⊢; exact q
    · rw [upd_ne z] at q ⊢; exact h.le a u q
  · have z : a ≠ p := fun z => r (z ▸ e)
    rw [upd_ne z]; exact q
/-- one new thing, not yet seen -/
theorem St.newO (h : St K mg sd σ H W) {p : Addr} (e : H p = none) (o : HO) : St K mg sd σ (upd H p o) W ∧ Kp sd σ H W sd σ (upd H p o) W :=
  h.grow (Le.refl _) (fun a u q => Le.upd e a u (h.le a u q)) (Le.upd e) (fun z => z) fun a q _ => q
theorem St.notOwn (h : St K mg sd σ H W) {p : Addr} (e : H p = none) : ¬ Own sd σ p := fun ⟨i, o, e1, e2⟩ => by
  obtain ⟨a, e3, w, r⟩ := h.own i o e1
  rw [e2] at e3; cases e3
  cases o with
  | lst ds => obtain ⟨vs, r1, _⟩ := r; rw [e] at r1; cases r1
  | obj cc fs => obtain ⟨C, dx, gs, _, r1, _⟩ := r; rw [e] at r1; cases r1
  | dic kvs => obtain ⟨gs, r1, _⟩ := r; rw [e] at r1; cases r1
  | dit kvs => obtain ⟨gs, r1, _⟩ := r; rw [e] at r1; cases r1
theorem Kp.fresh {sd' : S} {σ' : L2.St} (k : Kp sd σ H W sd' σ' H' W') {p : Addr} (e : H' p = none) : H p = none := by
  cases q : H p with
  | none => rfl
  | some o => exact absurd e (k.there p (by rw [q]; simp))
end

section
variable {X : Cx} {e a b c : Expr} {pos : Pos}
/-! freezing -/
theorem e_frz {m : M O} (h : OE X e m) : DE X e (bindM m fun o => retM o.d) := PE.imp h fun σ H Q ⟨sd, W, d, sd', st, em, q⟩ => by
  obtain ⟨o, s1, e1, e2⟩ := bindM_some em
  cases e2
  refine ⟨sd, W, o, sd', st, e1, fun p H' W' st' kp r no hp => ?_⟩
  obtain ⟨w, r⟩ := r
  have mk : ∀ u, H' p = some u → nt u = true → St X.K X.mg sd' σ H' (upd W' p u) ∧ Kp sd σ H W sd' σ H' (upd W' p u) := fun u hu nu => by
    refine ⟨⟨st'.tabs.step (upd_nt fun _ z => by rw [z] at nu; cases nu) (fun a ps e wa => ⟨e, by rw [upd_ne fun z => by rw [z, hu] at e; cases e; cases nu]; exact wa⟩) fun _ _ e => e, fun x y z => ?_, st'.len, fun i d ei => ?_, fun i o' ei => ?_, st'.inj⟩, ⟨kp.le.trans (Le.upd w), kp.keep, fun x y z n => ?_, kp.own, kp.there⟩⟩
    · by_cases h : x = p
      · subst h; rw [upd_same] at z; rw [← z]; exact hu
      · rw [upd_ne h] at z; exact st'.le x y z
    · obtain ⟨v, g, r⟩ := st'.dat i d ei
      exact ⟨v, g, r.le (Le.upd w)⟩
    · obtain ⟨x, g, w', r⟩ := st'.own i o' ei
      have ne : x ≠ p := fun z => no ⟨i, o', ei, z ▸ g⟩
      refine ⟨x, g, by rw [upd_ne ne]; exact w', ?_⟩
      cases o' with
      | lst ds => obtain ⟨vs, r1, r2⟩ := r; exact ⟨vs, r1, r2.le (Le.upd w)⟩
      | obj cc fs => obtain ⟨C, dx, gs, r0, r1, r2⟩ := r; exact ⟨C, dx, gs, r0, r1, r2.le (Le.upd w)⟩
      | dic kvs => obtain ⟨gs, r1, r2⟩ := r; exact ⟨gs, r1, r2.le (Le.upd w)⟩
      | dit kvs => obtain ⟨gs, r1, r2⟩ := r; exact ⟨gs, r1, r2.le (Le.upd w)⟩
    · have ne : x ≠ p := fun h => z (h ▸ hp)
      rw [upd_ne ne]; exact kp.new x y z n
  cases o with
  | lst ds =>
    obtain ⟨vs, r1, r2⟩ := r
    obtain ⟨g1, g2⟩ := mk _ r1 rfl
    exact q _ _ _ g1 g2 (.lst upd_same (r2.le (Le.upd w)))
  | obj cc fs =>
    obtain ⟨C, dx, gs, r0, r1, r2⟩ := r
    obtain ⟨g1, g2⟩ := mk _ r1 rfl
    exact q _ _ _ g1 g2 (.ins r0 upd_same (r2.le (Le.upd w)))
  | dic kvs =>
    obtain ⟨gs, r1, r2⟩ := r
    obtain ⟨g1, g2⟩ := mk _ r1 rfl
    exact q _ _ _ g1 g2 (.dic (.inl upd_same) (r2.le (Le.upd w)))
  | dit kvs =>
    obtain ⟨gs, r1, r2⟩ := r
    obtain ⟨g1, g2⟩ := mk _ r1 rfl
    exact q _ _ _ g1 g2 (.dit upd_same (r2.le (Le.upd w)))

/-! leaves -/
def mVar (i : Nat) : M D := fun s => match s[i]? with
  | some (some (.d d)) => some (d, s)
  | _ => none
theorem mVar_some {i : Nat} {s s' : S} {d : D} (h : mVar i s = some (d, s')) : s[i]? = some (some (.d d)) ∧ s' = s := by
  unfold mVar at h
  split at h
  · cases h; exact ⟨by assumption, rfl⟩
  · cases h
theorem e_var (i : Nat) {x : Str} (hN : X.N[i]? = some x := by rfl) (hv : Vis X.env.scope x := by first | exact Or.inl rfl | exact Or.inr (Or.inl rfl) | exact Or.inr (Or.inr rfl)) (hd : (x == ("__debug__" : Str)) = false := by decide)
    (hcd : (x == ("__classdict__" : Str)) = false := by decide) : DE X (.Name x pos) (mVar i) := PE.imp (pe_var (i := i) hN hv hd hcd) fun σ H Q ⟨sd, W, d, sd', st, em, q⟩ => by
  obtain ⟨e1, rfl⟩ := mVar_some em
  obtain ⟨v, e2, r⟩ := st.dat i d e1
  exact ⟨v, e2, q v H W st Kp.refl r⟩
theorem e_con {v : V} {d : D} (h : PE X e (tC v)) (r : ∀ W, DR X.K X.mg W v d) : DE X e (retM d) := PE.imp h fun σ H Q ⟨sd, W, d', sd', st, em, q⟩ => by
  cases em
  exact q v H W st Kp.refl (r W)
theorem e_int {i : Int} {j : Nat} : DE X (.Constant (.int i) j pos) (retM (.int i)) := e_con pe_int fun _ => .int i
theorem e_bl {i : Bool} {j : Nat} : DE X (.Constant (.bool i) j pos) (retM (.bl i)) := e_con pe_bl fun _ => .bl i
theorem e_non {j : Nat} : DE X (.Constant .none j pos) (retM .non) := e_con pe_non fun _ => .non
theorem e_str {i : Str} {j : Nat} : DE X (.Constant (.str i) j pos) (retM (.str i)) := e_con pe_str fun _ => .str i
theorem e_glob {x : Str} {v : V} {u : Value} {d : D} (hg : Gl X x) (hm : X.mg x = some u) (r : RelV v u) (rd : ∀ W, DR X.K X.mg W v d) (hd : (x == ("__debug__" : Str)) = false := by decide) : DE X (.Name x pos) (retM d) := e_con (pe_glob hg hm r hd) rd

/-! operators: what a rule on values gives, told by data -/
def R2D (K : PySem.W.Frag) (mg : Str → Option Value) (r : R2) (f : D → D → Option D) : Prop :=
  ∀ x y z vx vy sd σ H W, St K mg sd σ H W → DR K mg W vx x → DR K mg W vy y → f x y = some z → ∀ Q : VK, (∀ v H' W', St K mg sd σ H' W' → Kp sd σ H W sd σ H' W' → DR K mg W' v z → Q v H') → r vx vy H Q
/-- a rule that gives one value and leaves all as it is -/
theorem R2D.of {K : PySem.W.Frag} {mg : Str → Option Value} {r : R2} {f : D → D → Option D} (h : ∀ x y z vx vy H W, Le W H → DR K mg W vx x → DR K mg W vy y → f x y = some z → ∀ Q : VK, (∀ v, DR K mg W v z → Q v H) → r vx vy H Q) : R2D K mg r f :=
  fun x y z vx vy sd σ H W st hx hy hf Q q => h x y z vx vy H W st.le hx hy hf Q fun v hv => q v H W st Kp.refl hv
def mBin (f : D → D → Option D) (a b : M D) : M D := bindM a fun x => bindM b fun y => optM (f x y)
def mBinO (f : D → D → Option O) (a b : M D) : M O := bindM a fun x => bindM b fun y => optM (f x y)
theorem t_bin {K : PySem.W.Frag} {mg : Str → Option Value} {r : R2} {f : D → D → Option D} {ma mb : M D} (hr : R2D K mg r f) {σ : L2.St} {H : Hp} {Q : VK} (h : tD K mg (mBin f ma mb) σ H Q) : tOp r (tD K mg ma) (tD K mg mb) σ H Q := by
  obtain ⟨sd, W, d, sd', st, em, q⟩ := h
  obtain ⟨x, s1, e1, em⟩ := bindM_some em
  obtain ⟨y, s2, e2, em⟩ := bindM_some em
  obtain ⟨e3, rfl⟩ := optM_some em
  refine ⟨sd, W, x, s1, st, e1, fun v H1 W1 st1 k1 r1 => ⟨s1, W1, y, sd', st1, e2, fun u H2 W2 st2 k2 r2 => ?_⟩⟩
  exact hr x y d v u sd' σ H2 W2 st2 (r1.le k2.le) r2 e3 Q fun w H3 W3 st3 k3 r3 => q w H3 W3 st3 ((k1.trans k2).trans k3) r3
theorem e_op {op : Operator} {r : R2} {f : D → D → Option D} {ma mb : M D} (ho : OpR X (binaryOp op) r) (hr : R2D X.K X.mg r f) (ha : DE X a ma) (hb : DE X b mb) : DE X (.BinOp a op b pos) (mBin f ma mb) := PE.imp (pe_op ho ha hb) fun _ _ _ h => t_bin hr h
theorem e_cmp {op : CmpOp} {r : R2} {f : D → D → Option D} {ma mb : M D} (ho : OpR X (compareOp op) r) (hr : R2D X.K X.mg r f) (ha : DE X a ma) (hb : DE X b mb) (hm : behindInMarks op b = false) : DE X (.Compare a [op] [b] pos) (mBin f ma mb) := PE.imp (pe_cmpR ho ha hb hm) fun _ _ _ h => t_bin hr h
end
end Fli
set_option Elab.async false
set_option linter.all false
set_option maxRecDepth 100000
set_option maxHeartbeats 4000000
namespace Fli
open PySem L2
variable [HW]

/-! what operations give, on data -/
def sl : Nat := 16777216
def addD : D → D → Option D
  | .int a, .int b => some (.int (a + b))
  | .str a, .str b => if a.length + b.length ≤ sizeLine then some (.str (a ++ b)) else none
  | .tup as, .tup bs => if as.length + bs.length ≤ sizeLine then some (.tup (as ++ bs)) else none
  | _, _ => none
instance (a b : Int) : Decidable (CMul a b) := by unfold CMul; infer_instance
instance (a b : Int) : Decidable (CDivN a b) := by unfold CDivN; infer_instance
instance (a b : Int) : Decidable (CPow a b) := by unfold CPow; infer_instance
def mulD : D → D → Option D
  | .int a, .int b => if CMul a b then some (.int (a * b)) else none
  | _, _ => none
def divD : D → D → Option D
  | .int a, .int b => if CDivN a b then some (.int (a.fdiv b)) else none
  | _, _ => none
def modD : D → D → Option D
  | .int a, .int b => if b ≠ 0 then some (.int (a.fmod b)) else none
  | _, _ => none
def powD : D → D → Option D
  | .int a, .int b => if CPow a b then some (.int (a ^ b.toNat)) else none
  | _, _ => none
def cmpD (p : Int → Int → Bool) : D → D → Option D
  | .int a, .int b => some (.bl (p a b))
  | _, _ => none
def atD (x i : D) : Option D := match x, i with
  | .lst ds, .int i => atI ds i
  | .tup ds, .int i => atI ds i
  | .scr ns, .int i => (atI ns i).map .int
  | .str z, .int i => if z.length ≤ sizeLine then (atI z.cps.toList i).map fun c => .str ⟨#[c]⟩ else none
  | _, _ => none
def truD : D → Option Bool
  | .non => some false
  | .bl b => some b
  | .int i => some (i != 0)
  | .str z => if z.length ≤ sizeLine then some ((z.length : Int) != 0) else none
  | .tup ds => some !ds.isEmpty
  | .lst ds => some !ds.isEmpty
  | .scr ns => some !ns.isEmpty
  | .ins _ _ => none
  | .cls _ => none
  | .dic _ => none
  | .dit _ => none
  | .ptr _ => none
  | .exc _ _ _ => none
def notD : D → Option D := fun d => (truD d).map fun k => .bl !k
mutual
def toPy : D → Option PyData
  | .non => some .none
  | .bl b => some (.bool b)
  | .int i => some (.int i)
  | .str x => some (.str x)
  | .tup ds => (toPys ds).map .tuple
  | .lst ds => (toPys ds).map .list
  | .scr ns => some (.list (ns.map .int))
  | .ins _ _ => none
  | .cls _ => none
  | .dic _ => none
  | .dit _ => none
  | .ptr _ => none
  | .exc _ _ _ => none
def toPys : List D → Option (List PyData)
  | [] => some []
  | d :: ds => (toPy d).bind fun x => (toPys ds).map fun xs => x :: xs
end
def eqD (neg : Bool) (x y : D) : Option D := (toPy x).bind fun a => (toPy y).bind fun b => if SeqAt.shaped a = true ∧ SeqAt.shaped b = true then some (.bl (neg ^^ PyData.eqv a b)) else none
/-- flat data -/
def flD : D → Option V
  | .non => some .non
  | .bl b => some (.bl b)
  | .int i => some (.int i)
  | .str x => some (.str x)
  | _ => none
def flDs : List D → Option (List V)
  | [] => some []
  | d :: ds => (flD d).bind fun x => (flDs ds).map fun xs => x :: xs
def inD (neg : Bool) (x y : D) : Option D := match y with
  | .lst ds => (flD x).bind fun a => (flDs ds).map fun bs => .bl (neg ^^ inV a bs)
  | .tup ds => (flD x).bind fun a => (flDs ds).map fun bs => .bl (neg ^^ inV a bs)
  | .str z => match x with
    | .str c => if neg then none else some (.bl !(Builtin.Str.occurrences z c 0 z.length 1).isEmpty)
    | _ => none
  | _ => none
def isND (neg : Bool) (x y : D) : Option D := match y, x with
  | .non, .non => some (.bl !neg)
  | .non, _ => some (.bl neg)
  | _, _ => none

section
variable {K : PySem.W.Frag} {mg : Str → Option Value} {W : Hp}
theorem at_rs {vs : List V} {ds : List D} (r : DRs K mg W vs ds) {i : Int} {d : D} (h : atI ds i = some d) : ∃ v, atI vs i = some v ∧ DR K mg W v d := by
  unfold atI at h ⊢
  rw [r.len]
  cases e : ixN ds.length i with
  | none => rw [e] at h; cases h
  | some j =>
    rw [e] at h
    exact r.get h
theorem truV {v : V} {d : D} {k : Bool} {H : Hp} (e : Le W H) (r : DR K mg W v d) (h : truD d = some k) : TruV K v H k := by
  cases r with
  | non => cases h; rfl
  | bl b => cases h; rfl
  | int i => cases h; rfl
  | str x =>
    simp only [truD] at h
    split at h
    · cases h; exact ⟨by assumption, rfl⟩
    · cases h
  | tup s r => cases h; exact .inr (.inl ⟨_, st_le e s, by cases r <;> rfl⟩)
  | lst s r => cases h; exact .inl ⟨_, .inl (.inl (e _ _ s)), by cases r <;> rfl⟩
  | scr s =>
    rename_i a ns
    cases h; exact .inl ⟨_, sl_le e s, by cases ns <;> rfl⟩
  | ins _ _ _ => cases h
  | cls _ => cases h
  | dic _ _ => cases h
  | dit _ _ => cases h
  | ptr => cases h
  | exc _ _ => cases h
mutual
theorem toDp {H : Hp} (e : Le W H) : ∀ {v : V} {d : D} {p : PyData}, DR K mg W v d → toPy d = some p → Dp K H v p
  | _, _, _, .non, h => by cases h; exact .non
  | _, _, _, .bl b, h => by cases h; exact .bl b
  | _, _, _, .int i, h => by cases h; exact .int i
  | _, _, _, .str x, h => by cases h; exact .str x
  | _, .tup ds, p, .tup s r, h => by
    simp only [toPy, Option.map_eq_some_iff] at h
    obtain ⟨ps, h, rfl⟩ := h
    exact .tup (st_le e s) (toDps e r h)
  | _, .lst ds, p, .lst s r, h => by
    simp only [toPy, Option.map_eq_some_iff] at h
    obtain ⟨ps, h, rfl⟩ := h
    exact .lst (.inl (.inl (e _ _ s))) (toDps e r h)
  | _, .scr ns, p, .scr s, h => by
    cases h
    refine .lst (sl_le e s) ?_
    clear s
    induction ns with
    | nil => exact .nil
    | cons n ns ih => exact .cons (.int n) ih
  | _, _, _, .ins _ _ _, h => by cases h
  | _, _, _, .cls _, h => by cases h
  | _, _, _, .dic _ _, h => by cases h
  | _, _, _, .dit _ _, h => by cases h
  | _, _, _, .ptr, h => by cases h
  | _, _, _, .exc _ _, h => by cases h
theorem toDps {H : Hp} (e : Le W H) : ∀ {vs : List V} {ds : List D} {ps : List PyData}, DRs K mg W vs ds → toPys ds = some ps → DpAll K H vs ps
  | _, _, _, .nil, h => by cases h; exact .nil
  | _, d :: ds, ps, .cons r s, h => by
    simp only [toPys, Option.bind_eq_some_iff, Option.map_eq_some_iff] at h
    obtain ⟨x, h1, xs, h2, rfl⟩ := h
    exact .cons (toDp e r h1) (toDps e s h2)
end
theorem fl_v {v : V} {d : D} {x : V} (r : DR K mg W v d) (h : flD d = some x) : v = x ∧ flatV x = true := by
  cases r <;> cases h <;> exact ⟨rfl, rfl⟩
theorem fl_vs : ∀ {vs : List V} {ds : List D} {xs : List V}, DRs K mg W vs ds → flDs ds = some xs → vs = xs ∧ xs.all flatV = true
  | _, _, _, .nil, h => by cases h; exact ⟨rfl, rfl⟩
  | _, d :: ds, xs, .cons r s, h => by
    simp only [flDs, Option.bind_eq_some_iff, Option.map_eq_some_iff] at h
    obtain ⟨x, h1, ys, h2, rfl⟩ := h
    obtain ⟨rfl, a⟩ := fl_v r h1
    obtain ⟨rfl, b⟩ := fl_vs s h2
    exact ⟨rfl, by rw [List.all_cons, a, b]; rfl⟩
end

section
variable {X : Cx}
/-- a rule or another -/
def orR (r r' : R2) : R2 := fun x y H Q => r x y H Q ∨ r' x y H Q
theorem op_or {f : Value → Value → Sem Value} {r r' : R2} (h : OpR X f r) (h' : OpR X f r') : OpR X f (orR r r') := fun p s σ H x y v u Q I rx ry q => q.elim (h p s σ H x y v u Q I rx ry) (h' p s σ H x y v u Q I rx ry)
def rAddD (K : PySem.W.Frag) : R2 := orR (rI0 fun i j => V.int (i + j)) (orR (fun x y H Q => ∃ i j, x = V.str i ∧ y = V.str j ∧ i.length + j.length ≤ sizeLine ∧ Q (V.str (i ++ j)) H) (rCatF K))
theorem op_addA : OpR X (binaryOp .Add) (rAddD X.K) := op_or op_add (op_or op_add_str op_catF)
variable {K : PySem.W.Frag} {mg : Str → Option Value}
theorem rd_add : R2D K mg (rAddD K) addD := by
  intro x y z vx vy sd σ H W st hx hy hf Q q
  unfold addD at hf
  split at hf
  · cases hx; cases hy; cases hf
    exact .inl ⟨_, _, rfl, rfl, q _ H W st Kp.refl (.int _)⟩
  · cases hx; cases hy
    split at hf
    · rename_i h
      cases hf
      exact .inr (.inl ⟨_, _, rfl, rfl, h, q _ H W st Kp.refl (.str _)⟩)
    · cases hf
  · split at hf
    · rename_i h
      cases hf
      cases hx with
      | tup sx rx =>
        cases hy with
        | tup sy ry =>
          have l1 := rx.len
          have l2 := ry.len
          refine .inr (.inr ⟨_, _, _, _, rfl, rfl, st_le st.le sx, st_le st.le sy, by rw [l1, l2]; exact h, fun e => ?_, fun _ e => ?_, fun _ e p ob hp ho => ?_⟩)
          · subst e; cases rx
            exact q _ H W st Kp.refl (.tup sy ry)
          · subst e; cases ry
            refine q _ H W st Kp.refl (.tup sx ?_)
            rw [List.append_nil]; exact rx
          · obtain ⟨g1, g2⟩ := st.newV hp (.frz ob (.tup _))
            exact q _ _ _ g1 g2 (.tup (.inl ⟨ob, upd_same, ho⟩) ((rx.app ry).le (Le.upd (st.free hp))))
    · cases hf
  · cases hf
theorem rd_int {C : Int → Int → Prop} [∀ i j, Decidable (C i j)] {g : Int → Int → Int} : R2D K mg (rI C fun i j => V.int (g i j)) (fun x y => match x, y with | .int a, .int b => if C a b then some (.int (g a b)) else none | _, _ => none) := R2D.of fun x y z vx vy H W le hx hy hf Q q => by
  split at hf
  · split at hf <;> cases hf
    cases hx; cases hy
    exact ⟨_, _, rfl, rfl, by assumption, q _ (.int _)⟩
  · cases hf
theorem rd_mul : R2D K mg (rI CMul fun i j => V.int (i * j)) mulD := rd_int
theorem rd_div : R2D K mg (rI CDivN fun i j => V.int (i.fdiv j)) divD := rd_int
theorem rd_mod : R2D K mg (rI (fun _ j => j ≠ 0) fun i j => V.int (i.fmod j)) modD := rd_int
theorem rd_pow : R2D K mg (rI CPow fun i j => V.int (i ^ j.toNat)) powD := rd_int
theorem rd_cmp {p : Int → Int → Bool} : R2D K mg (rI0 fun i j => V.bl (p i j)) (cmpD p) := R2D.of fun x y z vx vy H W le hx hy hf Q q => by
  unfold cmpD at hf
  split at hf <;> cases hf
  cases hx; cases hy
  exact ⟨_, _, rfl, rfl, q _ (.bl _)⟩
theorem rd_at : R2D K mg (rIx K) atD := R2D.of fun x y z vx vy H W le hx hy hf Q q => by
  unfold atD at hf
  split at hf
  · cases hy
    cases hx with
    | lst s r =>
      obtain ⟨v, e, rv⟩ := at_rs r hf
      exact .inl ⟨_, _, _, v, rfl, rfl, .inl (.inl (le _ _ s)), e, q v rv⟩
  · cases hy
    cases hx with
    | tup s r =>
      obtain ⟨v, e, rv⟩ := at_rs r hf
      exact .inr (.inl ⟨_, _, _, v, rfl, rfl, st_le le s, e, q v rv⟩)
  · cases hy
    cases hx with
    | scr s =>
      rename_i ns i a
      simp only [Option.map_eq_some_iff] at hf
      obtain ⟨n, hf, rfl⟩ := hf
      refine .inl ⟨_, _, _, .int n, rfl, rfl, sl_le le s, ?_, q _ (.int n)⟩
      unfold atI at hf ⊢
      rw [List.length_map]
      cases e : ixN ns.length i with
      | none => rw [e] at hf; cases hf
      | some j =>
        rw [e] at hf
        have hf : ns[j]? = some n := hf
        show (ns.map V.int)[j]? = some (V.int n)
        rw [List.getElem?_map, hf]; rfl
  · cases hy
    cases hx
    split at hf
    · simp only [Option.map_eq_some_iff] at hf
      obtain ⟨c, hf, rfl⟩ := hf
      exact .inr (.inr ⟨_, _, c, rfl, rfl, by assumption, hf, q _ (.str _)⟩)
    · cases hf
  · cases hf
theorem rd_eq : R2D K mg (rEqD K) (eqD false) := R2D.of fun x y z vx vy H W le hx hy hf Q q => by
  simp only [eqD, Option.bind_eq_some_iff] at hf
  obtain ⟨a, ha, b, hb, hf⟩ := hf
  split at hf
  · rename_i h
    cases hf
    rw [Bool.false_xor] at q
    exact ⟨a, b, toDp le hx ha, toDp le hy hb, h.1, h.2, q _ (.bl _)⟩
  · cases hf
theorem rd_ne : R2D K mg (rNeD K) (eqD true) := R2D.of fun x y z vx vy H W le hx hy hf Q q => by
  simp only [eqD, Option.bind_eq_some_iff] at hf
  obtain ⟨a, ha, b, hb, hf⟩ := hf
  split at hf
  · rename_i h
    cases hf
    rw [Bool.true_xor] at q
    exact ⟨a, b, toDp le hx ha, toDp le hy hb, h.1, h.2, q _ (.bl _)⟩
  · cases hf
def rInD (K : PySem.W.Frag) : R2 := orR (rIn K false) fun x y H Q => ∃ i j, x = V.str i ∧ y = V.str j ∧ Q (V.bl !(Builtin.Str.occurrences j i 0 j.length 1).isEmpty) H
theorem op_inA : OpR X (compareOp .In) (rInD X.K) := op_or op_in_seq op_in_str
theorem rd_in : R2D K mg (rInD K) (inD false) := R2D.of fun x y z vx vy H W le hx hy hf Q q => by
  unfold inD at hf
  split at hf
  · simp only [Option.bind_eq_some_iff, Option.map_eq_some_iff] at hf
    obtain ⟨a, ha, bs, hb, rfl⟩ := hf
    cases hy with
    | lst s r =>
      obtain ⟨rfl, h1⟩ := fl_v hx ha
      obtain ⟨rfl, h2⟩ := fl_vs r hb
      exact .inl ⟨_, _, rfl, .inl (.inl (.inl (le _ _ s))), h1, h2, by simpa using q _ (.bl _)⟩
  · simp only [Option.bind_eq_some_iff, Option.map_eq_some_iff] at hf
    obtain ⟨a, ha, bs, hb, rfl⟩ := hf
    cases hy with
    | tup s r =>
      obtain ⟨rfl, h1⟩ := fl_v hx ha
      obtain ⟨rfl, h2⟩ := fl_vs r hb
      exact .inl ⟨_, _, rfl, .inr (st_le le s), h1, h2, by simpa using q _ (.bl _)⟩
  · split at hf
    · cases hf
      cases hx; cases hy
      exact .inr ⟨_, _, rfl, rfl, q _ (.bl _)⟩
    · cases hf
  · cases hf
theorem rd_nin : R2D K mg (rIn K true) (fun x y => match y with | .str _ => none | _ => inD true x y) := R2D.of fun x y z vx vy H W le hx hy hf Q q => by
  split at hf
  · cases hf
  · unfold inD at hf
    split at hf
    · simp only [Option.bind_eq_some_iff, Option.map_eq_some_iff] at hf
      obtain ⟨a, ha, bs, hb, rfl⟩ := hf
      cases hy with
      | lst s r =>
        obtain ⟨rfl, h1⟩ := fl_v hx ha
        obtain ⟨rfl, h2⟩ := fl_vs r hb
        exact ⟨_, _, rfl, .inl (.inl (.inl (le _ _ s))), h1, h2, by simpa using q _ (.bl _)⟩
    · simp only [Option.bind_eq_some_iff, Option.map_eq_some_iff] at hf
      obtain ⟨a, ha, bs, hb, rfl⟩ := hf
      cases hy with
      | tup s r =>
        obtain ⟨rfl, h1⟩ := fl_v hx ha
        obtain ⟨rfl, h2⟩ := fl_vs r hb
        exact ⟨_, _, rfl, .inr (st_le le s), h1, h2, by simpa using q _ (.bl _)⟩
    · split at hf
      · cases hf
      · cases hf
    · cases hf
def rIsN (neg : Bool) : R2 := fun x y H Q => y = V.non ∧ Q (V.bl (neg ^^ decide (x = V.non))) H
theorem op_isNA : OpR X (compareOp .Is) (rIsN false) := fun p s σ H x y v u Q I rx ry q => op_isN p s σ H x y v u Q I rx ry ⟨q.1, by simpa using q.2⟩
theorem rd_isN {neg : Bool} : R2D K mg (rIsN neg) (isND neg) := R2D.of fun x y z vx vy H W le hx hy hf Q q => by
  unfold isND at hf
  split at hf
  · cases hf; cases hx; cases hy
    exact ⟨rfl, by simpa using q _ (.bl _)⟩
  · cases hf; cases hy
    refine ⟨rfl, ?_⟩
    have : decide (vx = V.non) = false := by
      rename_i h
      cases hx <;> first | exact absurd rfl h | rfl
    rw [this, Bool.xor_false]
    exact q _ (.bl _)
  · cases hf
end
end Fli
set_option Elab.async false
set_option linter.all false
set_option maxRecDepth 100000
set_option maxHeartbeats 4000000
namespace Fli
open PySem L2
variable [HW]

section
variable {X : Cx} {e a b c : Expr} {es : List Expr} {pos : Pos}
/-! truth, tests, choice -/
theorem b_tru {m : M D} (h : DE X e m) (he : ∀ whole, isTrue e X.env whole = (do let v ← whole; standAt e.pos; holding [v] (truthy v)) := by intro _; rfl) : BT X e (bindM m fun d => optM (truD d)) := PT.imp (pt_truth h he) fun σ H Q ⟨sd, W, k, sd', st, em, q⟩ => by
  obtain ⟨d, s1, e1, em⟩ := bindM_some em
  obtain ⟨e2, rfl⟩ := optM_some em
  exact ⟨sd, W, d, sd', st, e1, fun v H1 W1 st1 k1 r => ⟨k, truV st1.le r e2, q H1 W1 st1 k1⟩⟩
theorem b_not {m : M Bool} (h : BT X e m) : BT X (.UnaryOp .Not e pos) (bindM m fun k => retM !k) := PT.imp (pt_not h) fun σ H Q ⟨sd, W, k, sd', st, em, q⟩ => by
  obtain ⟨d, s1, e1, em⟩ := bindM_some em
  cases em
  exact ⟨sd, W, d, sd', st, e1, q⟩
def andB (a b : M Bool) : M Bool := bindM a fun k => match k with | true => b | false => retM false
def orB (a b : M Bool) : M Bool := bindM a fun k => match k with | true => retM true | false => b
theorem bw_o1 {m : M Bool} (h : BT X e m) : BW X (.BoolOp .Or [e] pos) m := pw_or1 h
theorem bw_or {ma mb : M Bool} {rest : List Expr} (ha : BT X a ma) (hb : BW X (.BoolOp .Or (b :: rest) pos) mb) : BW X (.BoolOp .Or (a :: b :: rest) pos) (orB ma mb) := PW.imp (pw_or ha hb) fun σ H Q ⟨sd, W, k, sd', st, em, q⟩ => by
  obtain ⟨x, s1, e1, em⟩ := bindM_some em
  refine ⟨sd, W, x, s1, st, e1, fun H1 W1 st1 k1 => ?_⟩
  cases x with
  | false => rw [if_neg (by simp)]; exact ⟨s1, W1, k, sd', st1, em, fun H2 W2 st2 k2 => q H2 W2 st2 (k1.trans k2)⟩
  | true => cases em; rw [if_pos rfl]; exact q H1 W1 st1 k1
theorem b_w {m : M Bool} (h : BW X e m) : BT X e m := h.pt
/-- not, and, or as values -/
theorem e_not {m : M D} (h : DE X e m) : DE X (.UnaryOp .Not e pos) (bindM m fun d => optM (notD d)) := PE.imp (pe_notT h) fun σ H Q ⟨sd, W, k, sd', st, em, q⟩ => by
  obtain ⟨d, s1, e1, em⟩ := bindM_some em
  obtain ⟨e2, rfl⟩ := optM_some em
  simp only [notD, Option.map_eq_some_iff] at e2
  obtain ⟨t, e2, rfl⟩ := e2
  exact ⟨sd, W, d, sd', st, e1, fun v H1 W1 st1 k1 r => ⟨t, truV st1.le r e2, q _ H1 W1 st1 k1 (.bl _)⟩⟩
def andV (a b : M D) : M D := bindM a fun x => bindM (optM (truD x)) fun k => match k with | true => b | false => retM x
def orV (a b : M D) : M D := bindM a fun x => bindM (optM (truD x)) fun k => match k with | true => retM x | false => b
theorem e_1 {op : BoolOp} {m : M D} (h : DE X e m) : DE X (.BoolOp op [e] pos) m := pe_one h
theorem e_and {ma mb : M D} {rest : List Expr} (ha : DE X a ma) (hb : DE X (.BoolOp .And (b :: rest) pos) mb) : DE X (.BoolOp .And (a :: b :: rest) pos) (andV ma mb) := PE.imp (pe_andT ha hb) fun σ H Q ⟨sd, W, z, sd', st, em, q⟩ => by
  obtain ⟨x, s1, e1, em⟩ := bindM_some em
  obtain ⟨k, s2, e2, em⟩ := bindM_some em
  obtain ⟨h2, rfl⟩ := optM_some e2
  refine ⟨sd, W, x, s2, st, e1, fun v H1 W1 st1 k1 r => ⟨k, truV st1.le r h2, ?_⟩⟩
  cases k with
  | true => rw [if_pos rfl]; exact ⟨s2, W1, z, sd', st1, em, fun v H2 W2 st2 k2 r2 => q v H2 W2 st2 (k1.trans k2) r2⟩
  | false => cases em; rw [if_neg (by simp)]; exact q v H1 W1 st1 k1 r
theorem e_or {ma mb : M D} {rest : List Expr} (ha : DE X a ma) (hb : DE X (.BoolOp .Or (b :: rest) pos) mb) : DE X (.BoolOp .Or (a :: b :: rest) pos) (orV ma mb) := PE.imp (pe_orT ha hb) fun σ H Q ⟨sd, W, z, sd', st, em, q⟩ => by
  obtain ⟨x, s1, e1, em⟩ := bindM_some em
  obtain ⟨k, s2, e2, em⟩ := bindM_some em
  obtain ⟨h2, rfl⟩ := optM_some e2
  refine ⟨sd, W, x, s2, st, e1, fun v H1 W1 st1 k1 r => ⟨k, truV st1.le r h2, ?_⟩⟩
  cases k with
  | false => rw [if_neg (by simp)]; exact ⟨s2, W1, z, sd', st1, em, fun v H2 W2 st2 k2 r2 => q v H2 W2 st2 (k1.trans k2) r2⟩
  | true => cases em; rw [if_pos rfl]; exact q v H1 W1 st1 k1 r
def ifM {α : Type} (c : M Bool) (a b : M α) : M α := bindM c fun k => match k with | true => a | false => b
theorem e_if {mc : M Bool} {ma mb : M D} (hc : BT X c mc) (ha : DE X a ma) (hb : DE X b mb) : DE X (.IfExp c a b pos) (ifM mc ma mb) := PE.imp (pe_ifExp hc ha hb) fun σ H Q ⟨sd, W, z, sd', st, em, q⟩ => by
  obtain ⟨k, s1, e1, em⟩ := bindM_some em
  refine ⟨sd, W, k, s1, st, e1, fun H1 W1 st1 k1 => ?_⟩
  cases k with
  | true => rw [if_pos rfl]; exact ⟨s1, W1, z, sd', st1, em, fun v H2 W2 st2 k2 r2 => q v H2 W2 st2 (k1.trans k2) r2⟩
  | false => rw [if_neg (by simp)]; exact ⟨s1, W1, z, sd', st1, em, fun v H2 W2 st2 k2 r2 => q v H2 W2 st2 (k1.trans k2) r2⟩
/-- a chain of two comparisons -/
def chM (f g : D → D → Option D) (a b c : M D) : M D := bindM a fun x => bindM b fun y => bindM (optM (f x y)) fun k => match k with | .bl true => bindM c fun z => optM (g y z) | .bl false => retM (.bl false) | _ => fun _ => none
theorem t_chain {K : PySem.W.Frag} {mg : Str → Option Value} {r r' : R2} {f g : D → D → Option D} {ma mb mc : M D} (hr : R2D K mg r f) (hr' : R2D K mg r' g) {σ : L2.St} {H : Hp} {Q : VK} (h : tD K mg (chM f g ma mb mc) σ H Q) : tChain r r' (tD K mg ma) (tD K mg mb) (tD K mg mc) σ H Q := by
  obtain ⟨sd, W, d, sd', st, em, q⟩ := h
  obtain ⟨x, s1, e1, em⟩ := bindM_some em
  obtain ⟨y, s2, e2, em⟩ := bindM_some em
  obtain ⟨k, s3, e3, em⟩ := bindM_some em
  obtain ⟨h3, rfl⟩ := optM_some e3
  refine ⟨sd, W, x, s1, st, e1, fun v H1 W1 st1 k1 r1 => ⟨s1, W1, y, s3, st1, e2, fun u H2 W2 st2 k2 r2 => ?_⟩⟩
  refine hr x y k v u s3 σ H2 W2 st2 (r1.le k2.le) r2 h3 _ fun w H3 W3 st3 k3 r3 => ?_
  cases k with
  | bl t =>
    cases r3
    refine ⟨t, rfl, ?_⟩
    cases t with
    | true =>
      obtain ⟨z, s4, e4, em⟩ := bindM_some em
      obtain ⟨e5, rfl⟩ := optM_some em
      rw [if_pos rfl]
      exact ⟨s3, W3, z, sd', st3, e4, fun w H4 W4 st4 k4 r4 => hr' y z d u w sd' σ H4 W4 st4 ((r2.le k3.le).le k4.le) r4 e5 Q fun p H5 W5 st5 k5 r5 => q p H5 W5 st5 ((((k1.trans k2).trans k3).trans k4).trans k5) r5⟩
    | false => cases em; rw [if_neg (by simp)]; exact q _ H3 W3 st3 ((k1.trans k2).trans k3) (.bl _)
  | _ => cases em
theorem e_chain {op op' : CmpOp} {r r' : R2} {f g : D → D → Option D} {ma mb mc : M D} (ho : OpR X (compareOp op) r) (ho' : OpR X (compareOp op') r') (hr : R2D X.K X.mg r f) (hr' : R2D X.K X.mg r' g) (ha : DE X a ma) (hb : DE X b mb) (hc : DE X c mc)
    (hm : lastMarks [op, op'] [b, c] = false := by rfl) : DE X (.Compare a [op, op'] [b, c] pos) (chM f g ma mb mc) := PE.imp (pe_chain ho ho' ha hb hc hm) fun _ _ _ h => t_chain hr hr' h
/-! subscripts -/
theorem e_ix {ma mb : M D} (ha : DE X a ma) (hb : DE X b mb) (hs : PlainIx b := by exact fun _ _ => rfl) : DE X (.Subscript a b pos) (mBin atD ma mb) := PE.imp (pe_ix ix_seq ha hb hs) fun _ _ _ h => t_bin rd_at h
/-! displays, arguments -/
theorem la_nil : LA X [] (retM []) := PA.imp pa_nil fun σ H Q ⟨sd, W, d, sd', st, em, q⟩ => by
  cases em
  exact q _ H W st Kp.refl .nil
theorem la_cons {m : M D} {ms : M (List D)} (h : DE X e m) (hs : LA X es ms) (he : starEach (e :: es) X.env = (false, eval e X.env) :: starEach es X.env := by rfl) : LA X (e :: es) (bindM m fun d => bindM ms fun ds => retM (d :: ds)) := PA.imp (pa_cons h hs he) fun σ H Q ⟨sd, W, d, sd', st, em, q⟩ => by
  obtain ⟨x, s1, e1, em⟩ := bindM_some em
  obtain ⟨xs, s2, e2, em⟩ := bindM_some em
  cases em
  exact ⟨sd, W, x, s1, st, e1, fun v H1 W1 st1 k1 r1 => ⟨s1, W1, xs, sd', st1, e2, fun vs H2 W2 st2 k2 r2 => q _ H2 W2 st2 (k1.trans k2) (.cons (r1.le k2.le) r2)⟩⟩
def tupM (ds : List D) : Option D := if ds.length ≤ sizeLine then some (.tup ds) else none
def lstM (ds : List D) : Option O := if ds.length ≤ sizeLine then some (.lst ds) else none
theorem e_tup {ms : M (List D)} {k : Nat} (hs : LA X es ms) : DE X (.Tuple es k pos) (bindM ms fun ds => optM (tupM ds)) := PE.imp (pe_tupF hs) fun σ H Q ⟨sd, W, d, sd', st, em, q⟩ => by
  obtain ⟨xs, s1, e1, em⟩ := bindM_some em
  obtain ⟨e2, rfl⟩ := optM_some em
  unfold tupM at e2
  split at e2 <;> cases e2
  refine ⟨sd, W, xs, sd', st, e1, fun vs H1 W1 st1 k1 r1 => ⟨by rw [r1.len]; assumption, fun p ob hp ho => ?_⟩⟩
  obtain ⟨g1, g2⟩ := st1.newV hp (.frz ob (.tup vs))
  exact q _ _ _ g1 (k1.trans g2) (.tup (.inl ⟨ob, upd_same, ho⟩) (r1.le (Le.upd (st1.free hp))))
theorem o_lst {ms : M (List D)} (hs : LA X es ms) : OE X (.List es pos) (bindM ms fun ds => optM (lstM ds)) := PE.imp (pe_lst hs) fun σ H Q ⟨sd, W, d, sd', st, em, q⟩ => by
  obtain ⟨xs, s1, e1, em⟩ := bindM_some em
  obtain ⟨e2, rfl⟩ := optM_some em
  unfold lstM at e2
  split at e2 <;> cases e2
  refine ⟨sd, W, xs, sd', st, e1, fun vs H1 W1 st1 k1 r1 => ⟨by rw [r1.len]; assumption, fun p hp => ?_⟩⟩
  obtain ⟨g1, g2⟩ := st1.newO hp (.lst vs)
  exact q _ _ _ g1 (k1.trans g2) ⟨st1.free hp, vs, upd_same, r1⟩ (st1.notOwn hp) (k1.fresh hp)
/-! slices -/
theorem ip_none : IP X none (retM none) := PO.imp po_none fun σ H Q ⟨sd, W, d, sd', st, em, q⟩ => by
  cases em
  exact q H W st Kp.refl
def intD : D → Option Int
  | .int i => some i
  | _ => none
theorem ip_some {m : M D} (h : DE X e m) : IP X (some e) (bindM m fun d => optM ((intD d).map some)) := PO.imp (po_some h) fun σ H Q ⟨sd, W, d, sd', st, em, q⟩ => by
  obtain ⟨x, s1, e1, em⟩ := bindM_some em
  obtain ⟨e2, rfl⟩ := optM_some em
  refine ⟨sd, W, x, sd', st, e1, fun v H1 W1 st1 k1 r => ?_⟩
  cases x <;> cases e2
  cases r
  exact ⟨_, rfl, q H1 W1 st1 k1⟩
def cutD {α : Type} (xs : List α) (lo hi : Option Int) : List α := (xs.drop (HT.sIx xs.length 0 lo)).take (HT.sIx xs.length xs.length hi - HT.sIx xs.length 0 lo)
section
variable {K : PySem.W.Frag} {mg : Str → Option Value}
theorem cut_rs {W : Hp} {vs : List V} {ds : List D} (r : DRs K mg W vs ds) {lo hi : Option Int} : DRs K mg W (cutV vs lo hi) (cutD ds lo hi) := by
  unfold cutV cutD
  rw [r.len]
  exact (r.drop _).take _
theorem ints_rs {W : Hp} : ∀ {ns : List Int}, DRs K mg W (ns.map V.int) (ns.map D.int)
  | [] => .nil
  | _ :: _ => .cons (.int _) ints_rs
end
def slM {α : Type} (f : D → Option Int → Option Int → Option α) (a : M D) (l h : M (Option Int)) : M α := bindM a fun x => bindM l fun lo => bindM h fun hi => optM (f x lo hi)
end
end Fli
set_option Elab.async false
set_option linter.all false
set_option maxRecDepth 100000
set_option maxHeartbeats 4000000
namespace Fli
open PySem L2
variable [HW]

theorem bindO_some {α β : Type} {o : Option α} {f : α → M β} {s s' : S} {b : β} (h : bindM (optM o) f s = some (b, s')) : ∃ a, o = some a ∧ f a s = some (b, s') := by
  obtain ⟨a, s1, e1, h⟩ := bindM_some h
  obtain ⟨e2, z⟩ := optM_some e1
  rw [z] at h
  exact ⟨a, e2, h⟩
/-! slots that hold an object of their own: read in passing -/
def mLs (i : Nat) : M (List D) := fun s => match s[i]? with
  | some (some (.own (.lst ds))) => some (ds, s)
  | some (some (.d (.lst ds))) => some (ds, s)
  | _ => none
section
variable {K : PySem.W.Frag} {mg : Str → Option Value} {sd s' : S} {σ : L2.St} {H H' W W' : Hp}
theorem mLs_at {i : Nat} {ds : List D} (st : St K mg sd σ H W) (h : mLs i sd = some (ds, s')) : s' = sd ∧ ∃ a vs, σ[i]? = some (some (.ref a)) ∧ H a = some (.lst vs) ∧ DRs K mg W vs ds := by
  unfold mLs at h
  split at h
  · rename_i ds' e
    cases h
    obtain ⟨a, e1, w, vs, e2, r⟩ := st.own i _ e
    exact ⟨rfl, a, vs, e1, e2, r⟩
  · rename_i ds' e
    cases h
    obtain ⟨v, e1, r⟩ := st.dat i _ e
    cases r with
    | lst s r => exact ⟨rfl, _, _, e1, st.le _ _ s, r⟩
  · cases h
/-- a slot's own list is changed -/
def mOwn (i : Nat) : M (List D) := fun s => match s[i]? with
  | some (some (.own (.lst ds))) => some (ds, s)
  | _ => none
def mPut (i : Nat) (ds : List D) : M Unit := fun s => some ((), s.set i (some (.own (.lst ds))))
theorem mOwn_at {i : Nat} {ds : List D} (st : St K mg sd σ H W) (h : mOwn i sd = some (ds, s')) : s' = sd ∧ sd[i]? = some (some (.own (.lst ds))) ∧ ∃ a vs, σ[i]? = some (some (.ref a)) ∧ W a = none ∧ H a = some (.lst vs) ∧ DRs K mg W vs ds := by
  unfold mOwn at h
  split at h
  · rename_i ds' e
    cases h
    obtain ⟨a, e1, w, vs, e2, r⟩ := st.own i _ e
    exact ⟨rfl, e, a, vs, e1, w, e2, r⟩
  · cases h
theorem St.put {i : Nat} {a : Addr} {o : O} {ho : HO} (st : St K mg sd σ H W) (e : sd[i]? = some (some (.own o))) (ea : σ[i]? = some (some (.ref a))) (w : W a = none) {o' : O} (r : OR K mg (upd H a ho) W a o') :
    St K mg (sd.set i (some (.own o'))) σ (upd H a ho) W ∧ Kp sd σ H W (sd.set i (some (.own o'))) σ (upd H a ho) W := by
  have hi : i < sd.length := (List.getElem?_eq_some_iff.mp e).1
  have ow : Own sd σ a := ⟨i, o, e, ea⟩
  have back : ∀ (j : Nat) (u : O), (sd.set i (some (A.own o')))[j]? = some (some (A.own u)) → ∃ u', sd[j]? = some (some (A.own u')) := fun j u h => by
    by_cases z : i = j
    · subst z; exact ⟨o, e⟩
    · rw [List.getElem?_set_ne z] at h; exact ⟨u, h⟩
  have na : ∀ u, H a = some u → mt u := fun u => by
    obtain ⟨a', q1, q2⟩ := st.own i o e
    rw [ea] at q1; cases q1
    exact q2.mt u
  refine ⟨⟨st.tabs.upd na, fun x y z => ?_, by rw [List.length_set]; exact st.len, fun j d h => ?_, fun j u h => ?_, fun j k u u' x h1 h2 => ?_⟩, ⟨Le.refl _, fun x u h n _ => ?_, fun x h _ _ => h, fun x ⟨j, u, h1, h2⟩ => ?_, fun x h => ?_⟩⟩
  · have ne : x ≠ a := ne_of_none z w
    rw [upd_ne ne]; exact st.le x y z
  · have ne : i ≠ j := fun z => by subst z; rw [List.getElem?_set_self hi] at h; cases h
    rw [List.getElem?_set_ne ne] at h
    exact st.dat j d h
  · by_cases z : i = j
    · subst z
      rw [List.getElem?_set_self hi] at h; cases h
      exact ⟨a, ea, r⟩
    · rw [List.getElem?_set_ne z] at h
      obtain ⟨x, e1, w1, r1⟩ := st.own j u h
      have ne : x ≠ a := fun q => z (st.inj i j o u a e h ea (q ▸ e1))
      refine ⟨x, e1, w1, ?_⟩
      rw [upd_ne ne]; exact r1
  · obtain ⟨v, h1⟩ := back j u h1
    obtain ⟨v', h2⟩ := back k u' h2
    exact st.inj j k v v' x h1 h2
  · have ne : x ≠ a := fun z => n (z ▸ ow)
    rw [upd_ne ne]; exact h
  · obtain ⟨v, h1⟩ := back j u h1
    exact .inl ⟨j, v, h1, h2⟩
  · by_cases z : x = a
    · subst z; rw [upd_same]; simp
    · rw [upd_ne z]; exact h
end

/-! built-in functions -/
def C1D (K : PySem.W.Frag) (mg : Str → Option Value) (r : List V → Hp → VK → Prop) (f : List D → Option D) : Prop :=
  ∀ xs z vs sd σ H W, St K mg sd σ H W → DRs K mg W vs xs → f xs = some z → ∀ Q : VK, (∀ v H' W', St K mg sd σ H' W' → Kp sd σ H W sd σ H' W' → DR K mg W' v z → Q v H') → r vs H Q
def C1O (K : PySem.W.Frag) (mg : Str → Option Value) (r : List V → Hp → VK → Prop) (f : List D → Option O) : Prop :=
  ∀ xs z vs sd σ H W, St K mg sd σ H W → DRs K mg W vs xs → f xs = some z → ∀ Q : VK, (∀ p H' W', St K mg sd σ H' W' → Kp sd σ H W sd σ H' W' → OR K mg H' W' p z → H p = none → Q (.ref p) H') → r vs H Q
def lenD : List D → Option D
  | [.lst ds] => some (.int ds.length)
  | [.tup ds] => some (.int ds.length)
  | [.scr ns] => some (.int ns.length)
  | [.str z] => if z.length ≤ sizeLine then some (.int z.length) else none
  | _ => none
def absD : List D → Option D
  | [.int i] => some (.int (if i < 0 then -i else i))
  | _ => none
def intcD : List D → Option D
  | [.int i] => some (.int i)
  | [.bl b] => some (.int (if b = true then 1 else 0))
  | _ => none
def maxD : List D → Option D
  | [.int i, .int j] => some (.int (if j > i then j else i))
  | _ => none
def minD : List D → Option D
  | [.int i, .int j] => some (.int (if j < i then j else i))
  | _ => none
def tupcD : List D → Option D
  | [.lst ds] => some (.tup ds)
  | [.tup ds] => some (.tup ds)
  | _ => none
def lstcD : List D → Option O
  | [.lst ds] => some (.lst ds)
  | [.tup ds] => some (.lst ds)
  | [.scr ns] => some (.lst (ns.map .int))
  | _ => none
def blsD : List D → Option (List Bool)
  | [] => some []
  | .bl b :: ds => (blsD ds).map (b :: ·)
  | _ => none
def allD : List D → Option D
  | [.lst ds] => (blsD ds).map fun bs => .bl (bs.all id)
  | _ => none
section
variable {K : PySem.W.Frag} {mg : Str → Option Value}
theorem C1D.of {r : List V → Hp → VK → Prop} {f : List D → Option D} (h : ∀ xs z vs H W, Le W H → DRs K mg W vs xs → f xs = some z → ∀ Q : VK, (∀ v, DR K mg W v z → Q v H) → r vs H Q) : C1D K mg r f :=
  fun xs z vs sd σ H W st hx hf Q q => h xs z vs H W st.le hx hf Q fun v hv => q v H W st Kp.refl hv
theorem cd_len : C1D K mg (fun xs H Q => ∃ x n, xs = [x] ∧ LenV K x H n ∧ Q (V.int ↑n) H) lenD := C1D.of fun xs z vs H W le hx hf Q q => by
  unfold lenD at hf
  split at hf
  · cases hf
    cases hx with
    | cons h1 h2 =>
      cases h2
      cases h1 with
      | lst s r => exact ⟨_, _, rfl, .inl ⟨_, .inl (.inl (le _ _ s)), r.len.symm⟩, q _ (.int _)⟩
  · cases hf
    cases hx with
    | cons h1 h2 =>
      cases h2
      cases h1 with
      | tup s r => exact ⟨_, _, rfl, .inr ⟨_, st_le le s, r.len.symm⟩, q _ (.int _)⟩
  · cases hf
    cases hx with
    | cons h1 h2 =>
      cases h2
      cases h1 with
      | scr s => exact ⟨_, _, rfl, .inl ⟨_, sl_le le s, by rw [List.length_map]⟩, q _ (.int _)⟩
  · split at hf
    · cases hf
      cases hx with
      | cons h1 h2 =>
        cases h2
        cases h1
        exact ⟨_, _, rfl, ⟨by assumption, rfl⟩, q _ (.int _)⟩
    · cases hf
  · cases hf
theorem cd_abs : C1D K mg (fun xs H Q => ∃ i, xs = [V.int i] ∧ Q (V.int (if i < 0 then -i else i)) H) absD := C1D.of fun xs z vs H W le hx hf Q q => by
  unfold absD at hf
  split at hf <;> cases hf
  cases hx with
  | cons h1 h2 => cases h2; cases h1; exact ⟨_, rfl, q _ (.int _)⟩
theorem cd_int : C1D K mg (fun xs H Q => (∃ i, xs = [V.int i] ∧ Q (V.int i) H) ∨ ∃ k, xs = [V.bl k] ∧ Q (V.int (if k = true then 1 else 0)) H) intcD := C1D.of fun xs z vs H W le hx hf Q q => by
  unfold intcD at hf
  split at hf <;> cases hf
  · cases hx with
    | cons h1 h2 => cases h2; cases h1; exact .inl ⟨_, rfl, q _ (.int _)⟩
  · cases hx with
    | cons h1 h2 => cases h2; cases h1; exact .inr ⟨_, rfl, q _ (.int _)⟩
theorem cd_max : C1D K mg (fun xs H Q => ∃ i j, xs = [V.int i, V.int j] ∧ Q (V.int (if j > i then j else i)) H) maxD := C1D.of fun xs z vs H W le hx hf Q q => by
  unfold maxD at hf
  split at hf <;> cases hf
  cases hx with
  | cons h1 h2 => cases h2 with
    | cons h2 h3 => cases h3; cases h1; cases h2; exact ⟨_, _, rfl, q _ (.int _)⟩
theorem cd_min : C1D K mg (fun xs H Q => ∃ i j, xs = [V.int i, V.int j] ∧ Q (V.int (if j < i then j else i)) H) minD := C1D.of fun xs z vs H W le hx hf Q q => by
  unfold minD at hf
  split at hf <;> cases hf
  cases hx with
  | cons h1 h2 => cases h2 with
    | cons h2 h3 => cases h3; cases h1; cases h2; exact ⟨_, _, rfl, q _ (.int _)⟩
theorem cd_tup : C1D K mg (rTupF K) tupcD := fun xs z vs sd σ H W st hx hf Q q => by
  unfold tupcD at hf
  split at hf <;> cases hf
  · cases hx with
    | cons h1 h2 =>
      cases h2
      cases h1 with
      | lst s r =>
        refine ⟨_, _, rfl, .inl ⟨.inl (.inl (st.le _ _ s)), fun p ob hp ho => ?_⟩⟩
        obtain ⟨g1, g2⟩ := st.newV hp (.frz ob (.tup _))
        exact q _ _ _ g1 g2 (.tup (.inl ⟨ob, upd_same, ho⟩) (r.le (Le.upd (st.free hp))))
  · cases hx with
    | cons h1 h2 =>
      cases h2
      cases h1 with
      | tup s r => exact ⟨_, _, rfl, .inr ⟨st_le st.le s, q _ H W st Kp.refl (.tup s r)⟩⟩
theorem co_list : C1O K mg (fun xs H Q => ∃ p ys, xs = [V.ref p] ∧ (SqL K H p ys ∨ SqT K H p ys) ∧ ∀ (l : Addr), H l = none → Q (V.ref l) (upd H l (HO.lst ys))) lstcD := fun xs z vs sd σ H W st hx hf Q q => by
  have go : ∀ {ys : List V} {ds : List D} {p : Addr}, H p = none → DRs K mg W ys ds → z = .lst ds → Q (.ref p) (upd H p (.lst ys)) := fun hp r e => by
    obtain ⟨g1, g2⟩ := st.newO hp (.lst _)
    exact q _ _ _ g1 g2 ⟨st.free hp, by rw [e]; exact ⟨_, upd_same, r⟩⟩ hp
  unfold lstcD at hf
  split at hf <;> cases hf
  · cases hx with
    | cons h1 h2 =>
      cases h2
      cases h1 with
      | lst s r => exact ⟨_, _, rfl, .inl (.inl (.inl (st.le _ _ s))), fun p hp => go hp r rfl⟩
  · cases hx with
    | cons h1 h2 =>
      cases h2
      cases h1 with
      | tup s r => exact ⟨_, _, rfl, .inr (st_le st.le s), fun p hp => go hp r rfl⟩
  · cases hx with
    | cons h1 h2 =>
      cases h2
      cases h1 with
      | scr s => exact ⟨_, _, rfl, .inl (sl_le st.le s), fun p hp => go hp ints_rs rfl⟩
theorem bls_rs {W : Hp} : ∀ {vs : List V} {ds : List D} {bs : List Bool}, DRs K mg W vs ds → blsD ds = some bs → vs = bs.map V.bl
  | _, _, _, .nil, h => by cases h; rfl
  | _, _, _, .cons r s, h => by
    cases r <;> simp only [blsD] at h <;> try cases h
    simp only [Option.map_eq_some_iff] at h
    obtain ⟨bs, h, rfl⟩ := h
    rw [bls_rs s h]; rfl
theorem cd_all : C1D K mg (rAll K) allD := C1D.of fun xs z vs H W le hx hf Q q => by
  unfold allD at hf
  split at hf
  · simp only [Option.map_eq_some_iff] at hf
    obtain ⟨bs, h, rfl⟩ := hf
    cases hx with
    | cons h1 h2 =>
      cases h2
      cases h1 with
      | lst s r => exact ⟨_, bs, rfl, by rw [← bls_rs r h]; exact .inl (.inl (le _ _ s)), q _ (.bl _)⟩
  · cases hf
end

section
variable {X : Cx} {e a b c : Expr} {es : List Expr} {x : Str} {p pos p2 apos : Pos}
theorem e_bi {id : String} {r : List V → Hp → VK → Prop} {f : List D → Option D} {ms : M (List D)} (hc : CallR X (.builtin id) r) (hr : C1D X.K X.mg r f) (hg : Gl X x) (hm : X.mg x = none) (hv : bootBuiltins x = some (.builtin id)) (hs : LA X (e :: es) ms) (hn : x ≠ "__name__" := by decide) (hdb : (x == ("__debug__" : Str)) = false := by decide)
    (he : starEach (e :: es) X.env = (false, eval e X.env) :: starEach es X.env := by rfl) (hpl : (backTo pos (starEach es X.env)).any (·.1) = false := by rfl) : DE X (.Call (.Name x p) (e :: es) [] pos) (bindM ms fun ds => optM (f ds)) := PE.imp (pe_callB hc hg hm hv hs hn hdb he hpl) fun σ H Q ⟨sd, W, d, sd', st, em, q⟩ => by
  obtain ⟨xs, s1, e1, em⟩ := bindM_some em
  obtain ⟨e2, rfl⟩ := optM_some em
  exact ⟨sd, W, xs, sd', st, e1, fun vs H1 W1 st1 k1 r1 => hr xs d vs sd' σ H1 W1 st1 r1 e2 Q fun v H2 W2 st2 k2 r2 => q v H2 W2 st2 (k1.trans k2) r2⟩
theorem e_ty {id : String} {r : List V → Hp → VK → Prop} {f : List D → Option D} {ms : M (List D)} (hc : CallR X (.type id) r) (hr : C1D X.K X.mg r f) (hg : Gl X x) (hm : X.mg x = none) (hv : bootBuiltins x = some (.type id)) (hs : LA X (e :: es) ms) (hn : x ≠ "__name__" := by decide) (hdb : (x == ("__debug__" : Str)) = false := by decide)
    (he : starEach (e :: es) X.env = (false, eval e X.env) :: starEach es X.env := by rfl) (hpl : (backTo pos (starEach es X.env)).any (·.1) = false := by rfl) : DE X (.Call (.Name x p) (e :: es) [] pos) (bindM ms fun ds => optM (f ds)) := PE.imp (pe_callTy hc hg hm hv hs hn hdb he hpl) fun σ H Q ⟨sd, W, d, sd', st, em, q⟩ => by
  obtain ⟨xs, s1, e1, em⟩ := bindM_some em
  obtain ⟨e2, rfl⟩ := optM_some em
  exact ⟨sd, W, xs, sd', st, e1, fun vs H1 W1 st1 k1 r1 => hr xs d vs sd' σ H1 W1 st1 r1 e2 Q fun v H2 W2 st2 k2 r2 => q v H2 W2 st2 (k1.trans k2) r2⟩
theorem o_ty {id : String} {r : List V → Hp → VK → Prop} {f : List D → Option O} {ms : M (List D)} (hc : CallR X (.type id) r) (hr : C1O X.K X.mg r f) (hg : Gl X x) (hm : X.mg x = none) (hv : bootBuiltins x = some (.type id)) (hs : LA X (e :: es) ms) (hn : x ≠ "__name__" := by decide) (hdb : (x == ("__debug__" : Str)) = false := by decide)
    (he : starEach (e :: es) X.env = (false, eval e X.env) :: starEach es X.env := by rfl) (hpl : (backTo pos (starEach es X.env)).any (·.1) = false := by rfl) : OE X (.Call (.Name x p) (e :: es) [] pos) (bindM ms fun ds => optM (f ds)) := PE.imp (pe_callTy hc hg hm hv hs hn hdb he hpl) fun σ H Q ⟨sd, W, d, sd', st, em, q⟩ => by
  obtain ⟨xs, s1, e1, em⟩ := bindM_some em
  obtain ⟨e2, rfl⟩ := optM_some em
  exact ⟨sd, W, xs, sd', st, e1, fun vs H1 W1 st1 k1 r1 => hr xs d vs sd' σ H1 W1 st1 r1 e2 Q fun v H2 W2 st2 k2 r2 hp => q v H2 W2 st2 (k1.trans k2) r2 (fun hw => (k2.own _ hw).elim (st1.notOwn hp) (fun _ => st1.notOwn hp hw)) (k1.fresh hp)⟩
/-! own lists by name -/
def ixN (i : Nat) (mb : M D) : M D := bindM (mLs i) fun _ => bindM mb fun j => bindM (mLs i) fun ds => optM (atD (.lst ds) j)
theorem e_ixN (i : Nat) {mb : M D} (hn : PE X (.Name x p2) (tVar i)) (hb : DE X b mb) (hs : PlainIx b := by exact fun _ _ => rfl) : DE X (.Subscript (.Name x p2) b pos) (ixN i mb) := PE.imp (pe_ix ix_list hn hb hs) fun σ H Q ⟨sd, W, d, sd', st, em, q⟩ => by
  obtain ⟨d0, s0, e0, em⟩ := bindM_some em
  obtain ⟨j, s1, e1, em⟩ := bindM_some em
  obtain ⟨ds, s2, e2, em⟩ := bindM_some em
  obtain ⟨e3, rfl⟩ := optM_some em
  obtain ⟨rfl, a, vs0, ha, _, _⟩ := mLs_at st e0
  refine ⟨_, ha, s0, W, j, s1, st, e1, fun v H1 W1 st1 k1 r1 => ?_⟩
  obtain ⟨rfl, a', vs, ha', h1, r⟩ := mLs_at st1 e2
  rw [ha] at ha'; cases ha'
  cases j with
  | int n =>
    cases r1
    obtain ⟨w, e4, rw⟩ := at_rs r (show atI ds n = some d from e3)
    exact ⟨_, vs, n, w, rfl, rfl, .inl (.inl h1), e4, q w H1 W1 st1 k1 rw⟩
  | _ => cases e3
def lenN (i : Nat) : M D := bindM (mLs i) fun ds => retM (.int ds.length)
theorem e_lenN (i : Nat) (hn : PE X (.Name x p2) (tVar i)) (hg : Gl X "len") (hm : X.mg "len" = none) : DE X (.Call (.Name "len" p) [.Name x p2] [] pos) (lenN i) := PE.imp (pe_callB call_len hg hm (by decide +kernel) (pa_cons hn pa_nil)) fun σ H Q ⟨sd, W, d, sd', st, em, q⟩ => by
  obtain ⟨ds, s1, e1, em⟩ := bindM_some em
  cases em
  obtain ⟨rfl, a, vs, ha, h1, r⟩ := mLs_at st e1
  exact ⟨_, ha, _, _, rfl, .inl ⟨vs, .inl (.inl h1), r.len.symm⟩, q _ H W st Kp.refl (.int _)⟩
end
end Fli
set_option Elab.async false
set_option linter.all false
set_option maxRecDepth 100000
set_option maxHeartbeats 4000000
namespace Fli
open PySem L2
variable [HW]

/-! statements -/
inductive Out where
  | nx (s : S) | rd (d : D) (s : S) | ro (o : O) (s : S) | bk (s : S) | ct (s : S)
abbrev MS := S → Option Out
/-- the slots that must stay where they are -/
def Pr (pr : List Nat) (σ σ' : L2.St) : Prop := ∀ i ∈ pr, σ'[i]? = σ[i]?
theorem Pr.refl {pr : List Nat} {σ : L2.St} : Pr pr σ σ := fun _ _ => rfl
theorem Pr.trans {pr : List Nat} {a b c : L2.St} (x : Pr pr a b) (y : Pr pr b c) : Pr pr a c := fun i h => (y i h).trans (x i h)
/-- an object that is handed back: new since then, or a slot's own that is not lent -/
def Fr (pr : List Nat) (sd : S) (σ : L2.St) (H : Hp) (p : Addr) : Prop := H p = none ∨ (Own sd σ p ∧ ∀ i ∈ pr, σ[i]? ≠ some (some (.ref p)))
theorem Fr.back {pr : List Nat} {sd s1 : S} {σ σ1 : L2.St} {H W H1 W1 : Hp} {p : Addr} (k : Kp sd σ H W s1 σ1 H1 W1) (q : Pr pr σ σ1) (h : Fr pr s1 σ1 H1 p) : Fr pr sd σ H p := by
  rcases h with h | ⟨h, n⟩
  · exact .inl (k.fresh h)
  · rcases k.own p h with z | z
    · exact .inr ⟨z, fun i hi => by rw [← q i hi]; exact n i hi⟩
    · exact .inl z
section
variable (K : PySem.W.Frag) (mg : Str → Option Value) (pr : List Nat)
def Post (D : Ends) (sd : S) (σ : L2.St) (H W : Hp) : Out → Prop
  | .nx s' => ∀ σ' H' W', St K mg s' σ' H' W' → Kp sd σ H W s' σ' H' W' → Pr pr σ σ' → D.nx σ' H'
  | .bk s' => ∀ σ' H' W', St K mg s' σ' H' W' → Kp sd σ H W s' σ' H' W' → Pr pr σ σ' → D.bk σ' H'
  | .ct s' => ∀ σ' H' W', St K mg s' σ' H' W' → Kp sd σ H W s' σ' H' W' → Pr pr σ σ' → D.ct σ' H'
  | .rd d s' => ∀ v σ' H' W', St K mg s' σ' H' W' → Kp sd σ H W s' σ' H' W' → Pr pr σ σ' → DR K mg W' v d → D.rt v H'
  | .ro o s' => ∀ p σ' H' W', St K mg s' σ' H' W' → Kp sd σ H W s' σ' H' W' → Pr pr σ σ' → OR K mg H' W' p o → ¬ Own s' σ' p → Fr pr sd σ H p → D.rt (.ref p) H'
def tM (m : MS) : TS := fun D σ H => ∃ sd W out, St K mg sd σ H W ∧ m sd = some out ∧ Post K mg pr D sd σ H W out
end
abbrev SE (X : Cx) (pr : List Nat) (st : Stmt) (m : MS) : Prop := PS X st (tM X.K X.mg pr m)
abbrev SEs (X : Cx) (pr : List Nat) (st : List Stmt) (m : MS) : Prop := PSs X st (tM X.K X.mg pr m)
section
variable {K : PySem.W.Frag} {mg : Str → Option Value} {pr : List Nat} {D : Ends} {sd s1 : S} {σ σ1 : L2.St} {H H1 W W1 : Hp} {out : Out}
theorem Post.behind (h : Post K mg pr D sd σ H W out) (k : Kp sd σ H W s1 σ1 H1 W1) (p : Pr pr σ σ1) : Post K mg pr D s1 σ1 H1 W1 out := by
  cases out with
  | nx s' => exact fun σ' H' W' st k' p' => h σ' H' W' st (k.trans k') (p.trans p')
  | bk s' => exact fun σ' H' W' st k' p' => h σ' H' W' st (k.trans k') (p.trans p')
  | ct s' => exact fun σ' H' W' st k' p' => h σ' H' W' st (k.trans k') (p.trans p')
  | rd d s' => exact fun v σ' H' W' st k' p' => h v σ' H' W' st (k.trans k') (p.trans p')
  | ro o s' => exact fun v σ' H' W' st k' p' r n e => h v σ' H' W' st (k.trans k') (p.trans p') r n (Fr.back k p e)
theorem St.setD (st : St K mg sd σ H W) {v : V} {d : Fli.D} (r : DR K mg W v d) (i : Nat) : St K mg (sd.set i (some (.d d))) (σ.set i (some v)) H W ∧ Kp sd σ H W (sd.set i (some (.d d))) (σ.set i (some v)) H W := by
  have ne : ∀ (j : Nat) (o : O), (sd.set i (some (A.d d)))[j]? = some (some (A.own o)) → i ≠ j ∧ sd[j]? = some (some (A.own o)) := fun j o h => by
    by_cases z : i = j
    · subst z
      by_cases l : i < sd.length
      · rw [List.getElem?_set_self l] at h; cases h
      · rw [List.getElem?_eq_none (by rw [List.length_set]; omega)] at h; cases h
    · rw [List.getElem?_set_ne z] at h; exact ⟨z, h⟩
  refine ⟨⟨st.tabs, st.le, by rw [List.length_set, List.length_set]; exact st.len, fun j d' h => ?_, fun j o h => ?_, fun j k o u a h1 h2 e1 e2 => ?_⟩, ⟨Le.refl _, fun _ _ h _ _ => h, fun _ h _ _ => h, fun a ⟨j, o, h1, h2⟩ => ?_, fun _ h => h⟩⟩
  · by_cases z : i = j
    · subst z
      by_cases l : i < sd.length
      · rw [List.getElem?_set_self l] at h; cases h
        exact ⟨v, by rw [List.getElem?_set_self (by rw [← st.len]; exact l)], r⟩
      · rw [List.getElem?_eq_none (by rw [List.length_set]; omega)] at h; cases h
    · rw [List.getElem?_set_ne z] at h
      rw [List.getElem?_set_ne z]
      exact st.dat j d' h
  · obtain ⟨z, h⟩ := ne j o h
    rw [List.getElem?_set_ne z]
    exact st.own j o h
  · obtain ⟨z1, h1⟩ := ne j o h1
    obtain ⟨z2, h2⟩ := ne k u h2
    rw [List.getElem?_set_ne z1] at e1
    rw [List.getElem?_set_ne z2] at e2
    exact st.inj j k o u a h1 h2 e1 e2
  · obtain ⟨z, h1⟩ := ne j o h1
    rw [List.getElem?_set_ne z] at h2
    exact .inl ⟨j, o, h1, h2⟩
theorem St.setO (st : St K mg sd σ H W) {p : Addr} {o : O} (r : OR K mg H W p o) (n : ¬ Own sd σ p) (i : Nat) : St K mg (sd.set i (some (.own o))) (σ.set i (some (.ref p))) H W ∧ ∀ a, Own (sd.set i (some (.own o))) (σ.set i (some (.ref p))) a → Own sd σ a ∨ a = p := by
  have cs : ∀ (j : Nat) (u : O) (a : Addr), (sd.set i (some (A.own o)))[j]? = some (some (A.own u)) → (σ.set i (some (V.ref p)))[j]? = some (some (V.ref a)) → (i = j ∧ u = o ∧ a = p) ∨ (i ≠ j ∧ sd[j]? = some (some (A.own u)) ∧ σ[j]? = some (some (V.ref a))) := fun j u a h e => by
    by_cases z : i = j
    · subst z
      by_cases l : i < sd.length
      · rw [List.getElem?_set_self l] at h
        rw [List.getElem?_set_self (by rw [← st.len]; exact l)] at e
        cases h; cases e
        exact .inl ⟨rfl, rfl, rfl⟩
      · rw [List.getElem?_eq_none (by rw [List.length_set]; omega)] at h; cases h
    · rw [List.getElem?_set_ne z] at h e
      exact .inr ⟨z, h, e⟩
  refine ⟨⟨st.tabs, st.le, by rw [List.length_set, List.length_set]; exact st.len, fun j d' h => ?_, fun j u h => ?_, fun j k u w a h1 h2 e1 e2 => ?_⟩, fun a ⟨j, u, h1, h2⟩ => ?_⟩
  · have z : i ≠ j := fun z => by
      subst z
      by_cases l : i < sd.length
      · rw [List.getElem?_set_self l] at h; cases h
      · rw [List.getElem?_eq_none (by rw [List.length_set]; omega)] at h; cases h
    rw [List.getElem?_set_ne z] at h ⊢
    exact st.dat j d' h
  · by_cases z : i = j
    · subst z
      by_cases l : i < sd.length
      · rw [List.getElem?_set_self l] at h; cases h
        exact ⟨p, by rw [List.getElem?_set_self (by rw [← st.len]; exact l)], r⟩
      · rw [List.getElem?_eq_none (by rw [List.length_set]; omega)] at h; cases h
    · rw [List.getElem?_set_ne z] at h ⊢
      exact st.own j u h
  · rcases cs j u a h1 e1 with ⟨rfl, _, rfl⟩ | ⟨z1, q1, g1⟩
    · rcases cs k w a h2 e2 with ⟨z, _, _⟩ | ⟨z2, q2, g2⟩
      · exact z
      · exact absurd ⟨k, w, q2, g2⟩ n
    · rcases cs k w a h2 e2 with ⟨_, _, rfl⟩ | ⟨z2, q2, g2⟩
      · exact absurd ⟨j, u, q1, g1⟩ n
      · exact st.inj j k u w a q1 q2 g1 g2
  · rcases cs j u a h1 h2 with ⟨_, _, z⟩ | ⟨_, q, g⟩
    · exact .inr z
    · exact .inl ⟨j, u, q, g⟩
end

/-- a target: what it does with data -/
def TGk (K : PySem.W.Frag) (mg : Str → Option Value) (pr : List Nat) (g : TG) (f : D → S → Option S) : Prop :=
  ∀ v d sd s1 σ H W, St K mg sd σ H W → DR K mg W v d → f d sd = some s1 → ∀ Q : L2.St → Hp → Prop, (∀ σ1 H1 W1, St K mg s1 σ1 H1 W1 → Kp sd σ H W s1 σ1 H1 W1 → Pr pr σ σ1 → Q σ1 H1) → g v σ H Q
def TGs' (K : PySem.W.Frag) (mg : Str → Option Value) (pr : List Nat) (g : TGs) (f : List D → S → Option S) : Prop :=
  ∀ v d sd s1 σ H W, St K mg sd σ H W → DRs K mg W v d → f d sd = some s1 → ∀ Q : L2.St → Hp → Prop, (∀ σ1 H1 W1, St K mg s1 σ1 H1 W1 → Kp sd σ H W s1 σ1 H1 W1 → Pr pr σ σ1 → Q σ1 H1) → g v σ H Q
def setF (i : Nat) : D → S → Option S := fun d s => some (s.set i (some (.d d)))
def nilF : List D → S → Option S := fun ds s => match ds with | [] => some s | _ => none
def consF (f : D → S → Option S) (g : List D → S → Option S) : List D → S → Option S := fun ds s => match ds with | d :: r => (f d s).bind (g r) | [] => none
def tupF (n : Nat) (g : List D → S → Option S) : D → S → Option S := fun d s => match d with | .tup ds => if ds.length = n then g ds s else none | _ => none
theorem pr_set {pr : List Nat} {σ : L2.St} {i : Nat} {x : Option V} (h : i ∉ pr) : Pr pr σ (σ.set i x) := fun j hj => by
  rw [List.getElem?_set_ne fun z => h (by rw [z]; exact hj)]
section
variable {K : PySem.W.Frag} {mg : Str → Option Value} {pr : List Nat}
theorem tg_name {i : Nat} (hp : i ∉ pr) : TGk K mg pr (gName i) (setF i) := fun v d sd s1 σ H W st r e Q q => by
  cases e
  obtain ⟨g1, g2⟩ := st.setD r i
  exact q _ H W g1 g2 (pr_set hp)
theorem tg_nil : TGs' K mg pr (gNil) nilF := fun v d sd s1 σ H W st r e Q q => by
  cases r with
  | nil => cases e; exact ⟨rfl, q σ H W st Kp.refl Pr.refl⟩
  | cons _ _ => cases e
theorem tg_cons {g : TG} {gs : TGs} {f : D → S → Option S} {fs : List D → S → Option S} (h : TGk K mg pr g f) (hs : TGs' K mg pr gs fs) : TGs' K mg pr (gCons g gs) (consF f fs) := fun v d sd s1 σ H W st r e Q q => by
  cases r with
  | nil => cases e
  | cons r1 r2 =>
    simp only [consF, Option.bind_eq_some_iff] at e
    obtain ⟨s2, e1, e2⟩ := e
    refine ⟨_, _, rfl, h _ _ sd s2 σ H W st r1 e1 _ fun σ1 H1 W1 st1 k1 p1 => hs _ _ s2 s1 σ1 H1 W1 st1 (r2.le k1.le) e2 Q fun σ2 H2 W2 st2 k2 p2 => q σ2 H2 W2 st2 (k1.trans k2) (p1.trans p2)⟩
theorem tg_tup {n : Nat} {gs : TGs} {fs : List D → S → Option S} (hs : TGs' K mg pr gs fs) : TGk K mg pr (gTup K n gs) (tupF n fs) := fun v d sd s1 σ H W st r e Q q => by
  unfold tupF at e
  split at e
  · split at e
    · cases r with
      | tup s r => exact ⟨_, _, rfl, st_le st.le s, by rw [r.len]; assumption, hs _ _ sd s1 σ H W st r e Q q⟩
    · cases e
  · cases e
end

section
variable {X : Cx} {pr : List Nat} {e : Expr} {st : Stmt} {sts sts' : List Stmt} {pos : Pos}
def seqM (a b : MS) : MS := fun s => (a s).bind fun o => match o with | .nx s1 => b s1 | r => some r
def nxM : MS := fun s => some (.nx s)
theorem ss_nil : SEs X pr [] nxM := PSs.imp pss_nil fun D σ H ⟨sd, W, out, stt, em, q⟩ => by
  cases em
  exact q σ H W stt Kp.refl Pr.refl
theorem ss_cons {m ms : MS} (h : SE X pr st m) (hs : SEs X pr sts ms) : SEs X pr (st :: sts) (seqM m ms) := PSs.imp (pss_cons h hs) fun D σ H ⟨sd, W, out, stt, em, q⟩ => by
  simp only [seqM, Option.bind_eq_some_iff] at em
  obtain ⟨o, e1, e2⟩ := em
  refine ⟨sd, W, o, stt, e1, ?_⟩
  cases o with
  | nx s1 => exact fun σ1 H1 W1 st1 k1 p1 => ⟨s1, W1, out, st1, e2, q.behind k1 p1⟩
  | _ => cases e2; exact q
def retMS (m : M D) : MS := fun s => (m s).map fun p => .rd p.1 p.2
def retOS (m : M O) : MS := fun s => (m s).map fun p => .ro p.1 p.2
theorem s_ret {m : M D} (h : DE X e m) : SE X pr (.Return (some e) pos) (retMS m) := PS.imp (ps_ret h) fun D σ H ⟨sd, W, out, stt, em, q⟩ => by
  simp only [retMS, Option.map_eq_some_iff] at em
  obtain ⟨⟨d, s1⟩, e1, rfl⟩ := em
  exact ⟨sd, W, d, s1, stt, e1, fun v H1 W1 st1 k1 r => q v σ H1 W1 st1 k1 Pr.refl r⟩
theorem s_retO {m : M O} (h : OE X e m) : SE X pr (.Return (some e) pos) (retOS m) := PS.imp (ps_ret h) fun D σ H ⟨sd, W, out, stt, em, q⟩ => by
  simp only [retOS, Option.map_eq_some_iff] at em
  obtain ⟨⟨d, s1⟩, e1, rfl⟩ := em
  exact ⟨sd, W, d, s1, stt, e1, fun v H1 W1 st1 k1 r n e => q v σ H1 W1 st1 k1 Pr.refl r n (.inl e)⟩
def ifS (c : M Bool) (a b : MS) : MS := fun s => (c s).bind fun p => match p.1 with | true => a p.2 | false => b p.2
theorem s_if {mc : M Bool} {ma mb : MS} (hc : BT X e mc) (ha : SEs X pr sts ma) (hb : SEs X pr sts' mb) : SE X pr (.If e sts sts' pos) (ifS mc ma mb) := PS.imp (ps_if hc ha hb) fun D σ H ⟨sd, W, out, stt, em, q⟩ => by
  simp only [ifS, Option.bind_eq_some_iff] at em
  obtain ⟨⟨k, s1⟩, e1, em⟩ := em
  refine ⟨sd, W, k, s1, stt, e1, fun H1 W1 st1 k1 => ?_⟩
  cases k with
  | true => rw [if_pos rfl]; exact ⟨s1, W1, out, st1, em, q.behind k1 Pr.refl⟩
  | false => rw [if_neg (by simp)]; exact ⟨s1, W1, out, st1, em, q.behind k1 Pr.refl⟩
def asgM (m : M D) (f : D → S → Option S) : MS := fun s => (m s).bind fun p => (f p.1 p.2).map .nx
theorem s_asg {tg : Expr} {m : M D} {g : TG} {f : D → S → Option S} (h : DE X e m) (hg : PG X tg g) (hf : TGk X.K X.mg pr g f) (h1 : swapsWithSole [tg] e pos.line X.env = pure false := by rfl) (h2 : swappedStores [tg] e X.env = pure none := by rfl)
    (h3 : (assignEach [tg] X.env).map (fun x => x.2) = [assign tg X.env] := by rfl) : SE X pr (.Assign [tg] e pos) (asgM m f) := PS.imp (ps_asg h hg h1 h2 h3) fun D σ H ⟨sd, W, out, stt, em, q⟩ => by
  simp only [asgM, Option.bind_eq_some_iff, Option.map_eq_some_iff] at em
  obtain ⟨⟨d, s1⟩, e1, s2, e2, rfl⟩ := em
  exact ⟨sd, W, d, s1, stt, e1, fun v H1 W1 st1 k1 r => hf v d s1 s2 σ H1 W1 st1 r e2 _ fun σ2 H2 W2 st2 k2 p2 => q σ2 H2 W2 st2 (k1.trans k2) p2⟩
def asgO (m : M O) (i : Nat) : MS := fun s => (m s).map fun p => .nx (p.2.set i (some (.own p.1)))
theorem t_asgO {K : PySem.W.Frag} {mg : Str → Option Value} {m : M O} {i : Nat} (hp : i ∉ pr) {D : Ends} {σ : L2.St} {H : Hp} (h : tM K mg pr (asgO m i) D σ H) : tAsg (tO K mg m) (gName i) D σ H := by
  obtain ⟨sd, W, out, stt, em, q⟩ := h
  simp only [asgO, Option.map_eq_some_iff] at em
  obtain ⟨⟨o, s1⟩, e1, rfl⟩ := em
  refine ⟨sd, W, o, s1, stt, e1, fun p H1 W1 st1 k1 r n hn => ?_⟩
  obtain ⟨g1, g2⟩ := st1.setO r n i
  refine q _ H1 W1 g1 ⟨k1.le, k1.keep, k1.new, fun a ha => ?_, k1.there⟩ (pr_set hp)
  rcases g2 a ha with z | z
  · exact k1.own a z
  · rw [z]; exact .inr hn
theorem s_asgO {i : Nat} {tg : Expr} {m : M O} (h : OE X e m) (hg : PG X tg (gName i)) (hp : i ∉ pr) (h1 : swapsWithSole [tg] e pos.line X.env = pure false := by rfl) (h2 : swappedStores [tg] e X.env = pure none := by rfl)
    (h3 : (assignEach [tg] X.env).map (fun x => x.2) = [assign tg X.env] := by rfl) : SE X pr (.Assign [tg] e pos) (asgO m i) := PS.imp (ps_asg h hg h1 h2 h3) fun D σ H h => t_asgO hp h
/-- x.append(e) -/
def appN (i : Nat) (m : M D) : MS := fun s => (bindM (mOwn i) (fun _ => bindM m fun d => bindM (mOwn i) fun ds => bindM (optM (if ds.length < sizeLine then some () else none)) fun _ => mPut i (ds ++ [d])) s).map fun p => .nx p.2
theorem s_appN (i : Nat) {x : Str} {p2 apos cpos : Pos} {m : M D} (hn : PE X (.Name x p2) (tVar i)) (hb : DE X e m) (h1 : attributeBase (.Name x p2) "append" X.env (eval (.Name x p2) X.env) = eval (.Name x p2) X.env := by rfl)
    (h2 : ((((backTo cpos (starEach [e] X.env)).all fun x => !x.1) && (backToKw cpos (keywordEach [] X.env)).all fun x => x.1.isSome) && decide (([e].length + ([] : List Keyword).length + if ([] : List Keyword).isEmpty = true then 0 else 1) < 30)) = true := by rfl) (h3 : (apos.endLine == cpos.line) = true := by rfl)
    (h4 : starEach [e] X.env = (false, eval e X.env) :: starEach [] X.env := by rfl) (h5 : (backTo cpos (starEach [] X.env)).any (fun x => x.1) = false := by rfl)
    (h6 : swapsWith (.Call (.Attribute (.Name x p2) "append" apos) [e] [] cpos) none pos.line X.env = pure false := by rfl) :
    SE X pr (.Expr (.Call (.Attribute (.Name x p2) "append" apos) [e] [] cpos) pos) (appN i m) := PS.imp (ps_expr (pe_bm PySem.F.plainAttrs_list PySem.F.slot_list_append PySem.F.type_list_append mt_append hn (pa_cons hb pa_nil h4) h1 h2 h3 h4 h5) h6) fun D σ H ⟨sd, W, out, st, em, q⟩ => by
  simp only [appN, Option.map_eq_some_iff] at em
  obtain ⟨⟨_, s9⟩, em, rfl⟩ := em
  obtain ⟨d0, s0, e0, em⟩ := bindM_some em
  obtain ⟨d, s1, e1, em⟩ := bindM_some em
  obtain ⟨ds, s2, e2, em⟩ := bindM_some em
  obtain ⟨_, hz, emf⟩ := bindO_some em
  obtain ⟨rfl, _, a, vs0, ha, _, g0, _⟩ := mOwn_at st e0
  refine ⟨_, ha, .inl ⟨rfl, vs0, .inl (.inl g0)⟩, s0, W, d, s1, st, e1, fun v H1 W1 st1 k1 r1 => ?_⟩
  obtain ⟨rfl, es, a', vs, ha', w, g1, r⟩ := mOwn_at st1 e2
  rw [ha] at ha'; cases ha'
  split at hz
  · rename_i hl
    cases emf
    obtain ⟨g2, g3⟩ := st1.put (ho := .lst (vs ++ [v])) (o' := .lst (ds ++ [d])) es ha w ⟨w, _, upd_same, r.app (.cons r1 .nil)⟩
    exact ⟨_, vs, _, rfl, rfl, g1, by rw [r.len]; exact hl, q σ _ _ g2 (k1.trans g3) Pr.refl⟩
  · cases hz
/-- x[e] = f -/
def putN (i : Nat) (mi m : M D) : MS := fun s => (bindM m (fun d => bindM (mOwn i) fun _ => bindM mi fun j => bindM (mOwn i) fun ds => bindM (optM ((intD j).bind fun n => ixN' ds.length n)) fun k => mPut i (ds.set k d)) s).map fun p => .nx p.2
where ixN' (n : Nat) (i : Int) : Option Nat := L2.ixN n i
theorem s_putN (i : Nat) {x : Str} {p2 p3 : Pos} {b : Expr} {m mi : M D} (hn : PE X (.Name x p2) (tVar i)) (hb : DE X b mi) (h : DE X e m) (h0 : ∀ (v : Value), assign (.Subscript (.Name x p2) b p3) X.env v = (do
                let ov ← holding [v] (eval (.Name x p2) X.env)
                let iv ← holding [v, ov] (eval b X.env)
                standAt p3
                holding [v, ov, iv] (setItem ov iv v)
                release [v, ov, iv] []) := by exact fun _ => rfl)
    (h1 : swapsWithSole [.Subscript (.Name x p2) b p3] e pos.line X.env = pure false := by rfl) (h2 : swappedStores [.Subscript (.Name x p2) b p3] e X.env = pure none := by rfl)
    (h3 : (assignEach [.Subscript (.Name x p2) b p3] X.env).map (fun x => x.2) = [assign (.Subscript (.Name x p2) b p3) X.env] := by rfl) : SE X pr (.Assign [.Subscript (.Name x p2) b p3] e pos) (putN i mi m) := PS.imp (ps_asg h (pg_sub hn hb set_list h0) h1 h2 h3) fun D σ H ⟨sd, W, out, st, em, q⟩ => by
  simp only [putN, Option.map_eq_some_iff] at em
  obtain ⟨⟨_, s9⟩, em, rfl⟩ := em
  obtain ⟨d, s0, e0, em⟩ := bindM_some em
  obtain ⟨d1, s1, e1, em⟩ := bindM_some em
  obtain ⟨j, s2, e2, em⟩ := bindM_some em
  obtain ⟨ds, s3, e3, em⟩ := bindM_some em
  obtain ⟨k, hk, emf⟩ := bindO_some em
  refine ⟨sd, W, d, s0, st, e0, fun v H1 W1 st1 k1 r1 => ?_⟩
  obtain ⟨rfl, _, a, vs0, ha, _, g0, _⟩ := mOwn_at st1 e1
  refine ⟨_, ha, s1, W1, j, s2, st1, e2, fun u H2 W2 st2 k2 r2 => ?_⟩
  obtain ⟨rfl, es, a', vs, ha', w, g1, r⟩ := mOwn_at st2 e3
  rw [ha] at ha'; cases ha'
  cases j with
  | int n =>
    cases r2
    cases emf
    obtain ⟨g2, g3⟩ := st2.put (ho := .lst (vs.set k v)) (o' := .lst (ds.set k d)) es ha w ⟨w, _, upd_same, DRs.set (r1.le k2.le) k r⟩
    exact ⟨_, vs, n, k, rfl, rfl, g1, by rw [r.len]; exact hk, q σ _ _ g2 ((k1.trans k2).trans g3) Pr.refl⟩
  | _ => cases hk
end
end Fli
set_option Elab.async false
set_option linter.all false
set_option maxRecDepth 100000
set_option maxHeartbeats 4000000
namespace Fli
open PySem L2
variable [HW]

/-! loops -/
def loopM (asg : D → S → Option S) (body : MS) : List D → MS
  | [], s => some (.nx s)
  | d :: ds, s => (asg d s).bind fun s1 => (body s1).bind fun o => match o with
    | .nx s2 => loopM asg body ds s2
    | .ct s2 => loopM asg body ds s2
    | .bk s2 => some (.nx s2)
    | r => some r
def itD : D → Option (List D)
  | .lst ds => some ds
  | .tup ds => some ds
  | .str z => some (z.cps.toList.map fun c => .str ⟨#[c]⟩)
  | _ => none
theorem str_it {z : Str} {i c : Nat} (h : z.cps[i]? = some c) : (z.cps.toList.map fun c => D.str ⟨#[c]⟩)[i]? = some (.str ⟨#[c]⟩) := by
  rw [List.getElem?_map, Array.getElem?_toList, h]; rfl
def rngD (lo : Int) (n : Nat) : List D := (List.range n).map fun (i : Nat) => D.int (lo + (i : Int))
theorem rngD_get {lo : Int} {n i : Nat} (h : i < n) : (rngD lo n)[i]? = some (.int (lo + (i : Int))) := by
  unfold rngD
  rw [List.getElem?_map, List.getElem?_range h]; rfl
section
variable {K : PySem.W.Frag} {mg : Str → Option Value} {pr : List Nat} {D : Ends} {sd : S} {σ : L2.St} {H W : Hp} {out : Out} {g : TG} {asg : Fli.D → S → Option S} {m : MS}
/-- between two turns -/
def Turn (K : PySem.W.Frag) (mg : Str → Option Value) (pr : List Nat) (sd : S) (σ : L2.St) (H W : Hp) (asg : Fli.D → S → Option S) (m : MS) (items : List Fli.D) (out : Out) (i : Nat) (σ' : L2.St) (H' : Hp) : Prop :=
  ∃ sd' W', St K mg sd' σ' H' W' ∧ Kp sd σ H W sd' σ' H' W' ∧ Pr pr σ σ' ∧ loopM asg m (items.drop i) sd' = some out
theorem Turn.one {items : List Fli.D} {i : Nat} {d : Fli.D} {x : V} {σ' : L2.St} {H' : Hp} (hg : TGk K mg pr g asg) (q : Post K mg pr D sd σ H W out) (hd : items[i]? = some d) (t : Turn K mg pr sd σ H W asg m items out i σ' H')
    (hx : ∀ W', Le W W' → DR K mg W' x d) : g x σ' H' fun σ2 H2 => tM K mg pr m { nx := Turn K mg pr sd σ H W asg m items out (i + 1), rt := D.rt, bk := D.nx, ct := Turn K mg pr sd σ H W asg m items out (i + 1) } σ2 H2 := by
  obtain ⟨sd', W', st, k, p, em⟩ := t
  have hl : i < items.length := (List.getElem?_eq_some_iff.mp hd).1
  have hd' : items[i] = d := (List.getElem?_eq_some_iff.mp hd).2
  rw [List.drop_eq_getElem_cons hl, hd'] at em
  simp only [loopM, Option.bind_eq_some_iff] at em
  obtain ⟨s1, e1, o, e2, em⟩ := em
  refine hg x d sd' s1 σ' H' W' st (hx W' k.le) e1 _ fun σ1 H1 W1 st1 k1 p1 => ⟨s1, W1, o, st1, e2, ?_⟩
  have k' := k.trans k1
  have p' := p.trans p1
  cases o with
  | nx s2 => exact fun σ2 H2 W2 st2 k2 p2 => ⟨s2, W2, st2, k'.trans k2, p'.trans p2, em⟩
  | ct s2 => exact fun σ2 H2 W2 st2 k2 p2 => ⟨s2, W2, st2, k'.trans k2, p'.trans p2, em⟩
  | bk s2 =>
    cases em
    exact fun σ2 H2 W2 st2 k2 p2 => q σ2 H2 W2 st2 (k'.trans k2) (p'.trans p2)
  | rd d s2 =>
    cases em
    exact fun v σ2 H2 W2 st2 k2 p2 r => q v σ2 H2 W2 st2 (k'.trans k2) (p'.trans p2) r
  | ro o s2 =>
    cases em
    exact fun v σ2 H2 W2 st2 k2 p2 r n e => q v σ2 H2 W2 st2 (k'.trans k2) (p'.trans p2) r n (Fr.back k' p' e)
theorem Turn.done {items : List Fli.D} {σ' : L2.St} {H' : Hp} {n : Nat} (hn : items.length ≤ n) (q : Post K mg pr D sd σ H W out) (t : Turn K mg pr sd σ H W asg m items out n σ' H') : D.nx σ' H' := by
  obtain ⟨sd', W', st, k, p, em⟩ := t
  rw [List.drop_eq_nil_of_le hn] at em
  cases em
  exact q σ' H' W' st k p
end

section
variable {X : Cx} {pr : List Nat} {e a b tg : Expr} {sts : List Stmt} {pos p : Pos} {g : TG} {asg : D → S → Option S} {m : MS}
def forL (mi : M D) (asg : D → S → Option S) (m : MS) : MS := fun s => (mi s).bind fun q => (itD q.1).bind fun ds => loopM asg m ds q.2
theorem s_forL {mi : M D} (hi : DE X e mi) (hg : PG X tg g) (hf : TGk X.K X.mg pr g asg) (hb : SEs X pr sts m) (hc : X.calm = true) (hp : PassesOwn (model X.prog X.w) X.A X.env X.xe) (hfs : ∀ (x : Value), foldedSetIterable e X.env x = pure x := by intro _; rfl) : SE X pr (.For tg e sts [] pos) (forL mi asg m) := by
  have h1 := ps_for (pos := pos) hp hc (pi_list (tg := tg) hi) hg hb hfs
  have h2 := ps_for (pos := pos) hp hc (pi_tup (tg := tg) hi) hg hb hfs
  have h3 := ps_for (pos := pos) hp hc (pi_str (tg := tg) hi) hg hb hfs
  refine ⟨fun pins s σ H D I ⟨sd, W, out, st, em, q⟩ => ?_⟩
  simp only [forL, Option.bind_eq_some_iff] at em
  obtain ⟨⟨d, s1⟩, e1, ds, e2, em⟩ := em
  cases d with
  | lst es =>
    cases e2
    refine h1.run pins s σ H D I ⟨sd, W, _, s1, st, e1, fun v H1 W1 st1 k1 r1 => ?_⟩
    cases r1 with
    | @lst a vs _ sa r =>
      refine ⟨a, rfl, ⟨vs, .inl (.inl (st1.le _ _ sa))⟩, for_list (K := X.K) (a := a) (xs := vs) (Turn X.K X.mg pr s1 σ H1 W1 asg m ds out) ⟨s1, W1, st1, Kp.refl, Pr.refl, em⟩
        (fun i σ' H' _ ⟨sd', W', st', k', _, _⟩ => .inl (.inl (st'.le _ _ (k'.le _ _ sa)))) (fun i x σ' H' hx t => ?_) fun σ' H' t => Turn.done (by rw [r.len]; exact Nat.le_refl _) (q.behind k1 Pr.refl) t⟩
      obtain ⟨d, hd, rd⟩ := r.get' hx
      exact Turn.one hf (q.behind k1 Pr.refl) hd t fun W' le => rd.le le
  | tup es =>
    cases e2
    refine h2.run pins s σ H D I ⟨sd, W, _, s1, st, e1, fun v H1 W1 st1 k1 r1 => ?_⟩
    cases r1 with
    | @tup a vs _ sa r =>
      refine ⟨a, rfl, ⟨vs, st_le st1.le sa⟩, for_tup (K := X.K) (a := a) (xs := vs) (Turn X.K X.mg pr s1 σ H1 W1 asg m ds out) ⟨s1, W1, st1, Kp.refl, Pr.refl, em⟩
        (fun i σ' H' _ ⟨sd', W', st', k', _, _⟩ => st_le (k'.le.trans st'.le) sa) (fun i x σ' H' hx t => ?_) fun σ' H' t => Turn.done (by rw [r.len]; exact Nat.le_refl _) (q.behind k1 Pr.refl) t⟩
      obtain ⟨d, hd, rd⟩ := r.get' hx
      exact Turn.one hf (q.behind k1 Pr.refl) hd t fun W' le => rd.le le
  | str z =>
    cases e2
    refine h3.run pins s σ H D I ⟨sd, W, _, s1, st, e1, fun v H1 W1 st1 k1 r1 => ?_⟩
    cases r1
    have qq := q.behind k1 Pr.refl
    refine ⟨z, rfl, fun i m' σ' H' => Turn X.K X.mg pr s1 σ H1 W1 asg m (z.cps.toList.map fun c => .str ⟨#[c]⟩) out i σ' H' ∧ m' + i = z.cps.size, ⟨z.cps.size, ⟨s1, W1, st1, Kp.refl, Pr.refl, em⟩, rfl⟩, ?_⟩
    rintro i m' σ' H' ⟨t, hm'⟩
    by_cases hi : i < z.cps.size
    · refine .inr ⟨hi, fun σ2 H2 => Turn X.K X.mg pr s1 σ H1 W1 asg m (z.cps.toList.map fun c => .str ⟨#[c]⟩) out (i + 1) σ2 H2, fun σ2 H2 n => ⟨m' - 1, by omega, n, by omega⟩, ?_⟩
      rintro x H2 ⟨rfl, c, hc, rfl⟩
      exact Turn.one hf qq (str_it hc) t fun W' le => .str _
    · exact .inl ⟨by show z.cps.size ≤ i; omega, Turn.done (by simp; omega) qq t⟩
  | _ => cases e2
def okR (j : Int) : Bool := decide (-2 ^ 62 ≤ j ∧ j < 2 ^ 62)
def rng1 : List D → Option (List D)
  | [.int j] => if okR j = true then some (rngD 0 j.toNat) else none
  | _ => none
theorem rng1_some {ds items : List D} (h : rng1 ds = some items) : ∃ j : Int, ds = [.int j] ∧ (-2 ^ 62 ≤ j ∧ j < 2 ^ 62) ∧ items = rngD 0 j.toNat := by
  unfold rng1 at h
  split at h
  · split at h
    · rename_i hj
      cases h
      exact ⟨_, rfl, of_decide_eq_true hj, rfl⟩
    · cases h
  · cases h
def forR (ms : M (List D)) (rng : List D → Option (List D)) (asg : D → S → Option S) (m : MS) : MS := fun s => (ms s).bind fun q => (rng q.1).bind fun ds => loopM asg m ds q.2
theorem s_for1 {ms : M (List D)} {p3 : Pos} (hi : LA X [a] ms) (hr : Gl X "range") (hm : X.mg "range" = none) (hg : PG X tg g) (hf : TGk X.K X.mg pr g asg) (hb : SEs X pr sts m) (hc : X.calm = true) (hp : PassesOwn (model X.prog X.w) X.A X.env X.xe) (hs : starEach [a] X.env = [(false, eval a X.env)] := by rfl) : SE X pr (.For tg (.Call (.Name "range" p) [a] [] p3) sts [] pos) (forR ms rng1 asg m) := PS.imp (ps_for hp hc (pi_range1 hr hm hi hs) hg hb) fun D σ H ⟨sd, W, out, st, em, q⟩ => by
  simp only [forR, Option.bind_eq_some_iff] at em
  obtain ⟨⟨d, s1⟩, e1, ds, e2, em⟩ := em
  obtain ⟨j, hd, hj, hi⟩ := rng1_some e2
  subst hd hi
  refine ⟨sd, W, _, s1, st, e1, fun v H1 W1 st1 k1 r1 => ?_⟩
  cases r1 with
  | cons r1 r2 =>
    cases r1; cases r2
    refine ⟨j, rfl, hj.1, hj.2, for_range (lo := 0) (n := j.toNat) (Turn X.K X.mg pr s1 σ H1 W1 asg m (rngD 0 j.toNat) out) ⟨s1, W1, st1, Kp.refl, Pr.refl, em⟩ (fun i σ' H' hi t => ?_)
      fun σ' H' t => Turn.done (by unfold rngD; simp) (q.behind k1 Pr.refl) t⟩
    exact Turn.one hf (q.behind k1 Pr.refl) (rngD_get hi) t fun W' le => .int _
end
end Fli
set_option Elab.async false
set_option linter.all false
set_option maxRecDepth 100000
set_option maxHeartbeats 4000000
namespace Fli
open PySem L2
variable [HW]

/-! comprehensions -/
theorem wipe_get (σ : L2.St) (j : Nat) : ∀ vs : List Nat, (wipe σ vs)[j]? = if j ∈ vs then (σ[j]?).map (fun _ => (none : Option V)) else σ[j]?
  | [] => by simp [wipe]
  | v :: vs => by
    unfold wipe
    by_cases h : v = j
    · subst h
      rw [if_pos (by simp)]
      by_cases l : v < σ.length
      · rw [List.getElem?_set_self (by rw [wipe_length]; exact l), List.getElem?_eq_getElem l]; rfl
      · rw [List.getElem?_eq_none (by rw [List.length_set, wipe_length]; omega), List.getElem?_eq_none (by omega)]; rfl
    · rw [List.getElem?_set_ne h, wipe_get σ j vs]
      by_cases q : j ∈ vs
      · rw [if_pos q, if_pos (by simp [q])]
      · rw [if_neg q, if_neg (by simp [q]; exact fun z => h z.symm)]
theorem wipe_eq {σ σ' : L2.St} {vs : List Nat} (h : ∀ j, j ∉ vs → σ[j]? = σ'[j]?) (l : σ.length = σ'.length) : wipe σ vs = wipe σ' vs := by
  refine List.ext_getElem? fun j => ?_
  rw [wipe_get, wipe_get]
  by_cases q : j ∈ vs
  · rw [if_pos q, if_pos q]
    by_cases z : j < σ.length
    · rw [List.getElem?_eq_getElem z, List.getElem?_eq_getElem (l ▸ z)]; rfl
    · rw [List.getElem?_eq_none (by omega), List.getElem?_eq_none (by omega)]
  · rw [if_neg q, if_neg q]; exact h j q
theorem wipe_set {σ : L2.St} {vs : List Nat} {i : Nat} {x : Option V} (h : i ∈ vs) : wipe (σ.set i x) vs = wipe σ vs :=
  wipe_eq (fun j hj => List.getElem?_set_ne fun z => hj (by rw [← z]; exact h)) (List.length_set ..)
theorem wipe_wipe {σ : L2.St} {vs : List Nat} : wipe (wipe σ vs) vs = wipe σ vs :=
  wipe_eq (fun j hj => by rw [wipe_get, if_neg hj]) (wipe_length _ _)
def wipeS (vs : List Nat) (s : S) : S := s.mapIdx fun j x => if j ∈ vs then none else x
def restS (s0 : S) (vs : List Nat) (s : S) : S := s.mapIdx fun j x => if j ∈ vs then (s0[j]?).join else x
def noOwn (vs : List Nat) (s : S) : Bool := vs.all fun j => match s[j]? with
  | some (some (.own _)) => false
  | _ => true
theorem wipeS_get {vs : List Nat} {s : S} {j : Nat} {a : A} : (wipeS vs s)[j]? = some (some a) ↔ j ∉ vs ∧ s[j]? = some (some a) := by
  unfold wipeS
  rw [List.getElem?_mapIdx]
  cases e : s[j]? with
  | none => simp
  | some x => by_cases h : j ∈ vs <;> simp [h]
theorem restS_get {vs : List Nat} {s0 s : S} {j : Nat} {a : A} (h : (restS s0 vs s)[j]? = some (some a)) : (j ∈ vs ∧ s0[j]? = some (some a)) ∨ (j ∉ vs ∧ s[j]? = some (some a)) := by
  unfold restS at h
  rw [List.getElem?_mapIdx] at h
  cases e : s[j]? with
  | none => rw [e] at h; simp at h
  | some x =>
    rw [e] at h
    by_cases q : j ∈ vs
    · simp only [q, if_pos, Option.map_some, Option.some.injEq] at h
      refine .inl ⟨q, ?_⟩
      cases z : s0[j]? with
      | none => rw [z] at h; cases h
      | some y => rw [z] at h; rw [show y = some a from h]
    · simp only [q, if_neg, not_false_iff, Option.map_some, Option.some.injEq] at h
      exact .inr ⟨q, by rw [← h]⟩
section
variable {K : PySem.W.Frag} {mg : Str → Option Value} {sd s0 : S} {σ : L2.St} {H H0 W W0 : Hp} {vs : List Nat}
theorem Own.wipe {a : Addr} (h : Own (wipeS vs sd) (L2.wipe σ vs) a) : Own sd σ a := by
  obtain ⟨i, o, e1, e2⟩ := h
  obtain ⟨q, e1⟩ := wipeS_get.mp e1
  rw [wipe_get, if_neg q] at e2
  exact ⟨i, o, e1, e2⟩
theorem St.wipe (st : St K mg sd σ H W) : St K mg (wipeS vs sd) (L2.wipe σ vs) H W where
  tabs := st.tabs
  le := st.le
  len := by unfold wipeS; rw [List.length_mapIdx, wipe_length]; exact st.len
  dat := fun i d h => by
    obtain ⟨q, h⟩ := wipeS_get.mp h
    obtain ⟨v, e, r⟩ := st.dat i d h
    exact ⟨v, by rw [wipe_get, if_neg q]; exact e, r⟩
  own := fun i o h => by
    obtain ⟨q, h⟩ := wipeS_get.mp h
    obtain ⟨v, e, r⟩ := st.own i o h
    exact ⟨v, by rw [wipe_get, if_neg q]; exact e, r⟩
  inj := fun i j o u a h1 h2 e1 e2 => by
    obtain ⟨q1, h1⟩ := wipeS_get.mp h1
    obtain ⟨q2, h2⟩ := wipeS_get.mp h2
    rw [wipe_get, if_neg q1] at e1
    rw [wipe_get, if_neg q2] at e2
    exact st.inj i j o u a h1 h2 e1 e2
theorem noOwn_at {j : Nat} {o : O} (h : noOwn vs sd = true) (q : j ∈ vs) (e : sd[j]? = some (some (.own o))) : False := by
  have := List.all_eq_true.mp h j q
  rw [e] at this
  cases this
theorem St.rest (st : St K mg sd (L2.wipe σ vs) H W) (s0t : St K mg s0 σ H0 W0) (le : Le W0 W) (no : noOwn vs s0 = true) : St K mg (restS s0 vs sd) σ H W ∧ ∀ a, Own (restS s0 vs sd) σ a → Own sd (L2.wipe σ vs) a := by
  have back : ∀ {j : Nat} {o : O}, (restS s0 vs sd)[j]? = some (some (.own o)) → j ∉ vs ∧ sd[j]? = some (some (.own o)) := fun h => by
    rcases restS_get h with ⟨q, h⟩ | h
    · exact (noOwn_at no q h).elim
    · exact h
  refine ⟨⟨st.tabs, st.le, ?_, fun j d h => ?_, fun j o h => ?_, fun i j o u a h1 h2 e1 e2 => ?_⟩, fun a ⟨j, o, e1, e2⟩ => ?_⟩
  · unfold restS; rw [List.length_mapIdx, st.len, wipe_length]
  · rcases restS_get h with ⟨q, h⟩ | ⟨q, h⟩
    · obtain ⟨v, e, r⟩ := s0t.dat j d h
      exact ⟨v, e, r.le le⟩
    · obtain ⟨v, e, r⟩ := st.dat j d h
      rw [wipe_get, if_neg q] at e
      exact ⟨v, e, r⟩
  · obtain ⟨q, h⟩ := back h
    obtain ⟨v, e, r⟩ := st.own j o h
    rw [wipe_get, if_neg q] at e
    exact ⟨v, e, r⟩
  · obtain ⟨q1, h1⟩ := back h1
    obtain ⟨q2, h2⟩ := back h2
    exact st.inj i j o u a h1 h2 (by rw [wipe_get, if_neg q1]; exact e1) (by rw [wipe_get, if_neg q2]; exact e2)
  · obtain ⟨q, h⟩ := back e1
    exact ⟨j, o, h, by rw [wipe_get, if_neg q]; exact e2⟩
/-- an unseen object changes -/
theorem St.mut (st : St K mg sd σ H W) {p : Addr} {o : HO} (w : W p = none) (n : ¬ Own sd σ p) (np : ∀ u, H p = some u → mt u) : St K mg sd σ (upd H p o) W where
  tabs := st.tabs.upd np
  le := fun a u h => by rw [upd_ne (ne_of_none h w)]; exact st.le a u h
  len := st.len
  dat := st.dat
  own := fun i u h => by
    obtain ⟨a, e, w', r⟩ := st.own i u h
    have ne : a ≠ p := fun z => n ⟨i, u, h, z ▸ e⟩
    refine ⟨a, e, w', ?_⟩
    rw [upd_ne ne]; exact r
  inj := st.inj
end
/-- a target keeps to its slots -/
def TGw (vs : List Nat) (g : TG) : Prop := ∀ (x : V) (σ : L2.St) (H : Hp) (Q : L2.St → Hp → Prop), g x σ H (fun σ2 H2 => wipe σ2 vs = wipe σ vs → Q σ2 H2) → g x σ H fun σ2 H2 => wipe σ2 vs = wipe σ vs ∧ Q σ2 H2
theorem tw_name {vs : List Nat} {i : Nat} (h : i ∈ vs) : TGw vs (gName i) := fun x σ H Q q => ⟨wipe_set h, q (wipe_set h)⟩
theorem tw_tup2 {K : PySem.W.Frag} {vs : List Nat} {i j : Nat} (hi : i ∈ vs) (hj : j ∈ vs) : TGw vs (gTup K 2 (gCons (gName i) (gCons (gName j) gNil))) := fun x σ H Q q => by
  obtain ⟨a, xs, e, s, l, x1, r1, e1, x2, r2, e2, e3, q⟩ := q
  have z : wipe ((σ.set i (some x1)).set j (some x2)) vs = wipe σ vs := by rw [wipe_set hj, wipe_set hi]
  exact ⟨a, xs, e, s, l, x1, r1, e1, x2, r2, e2, e3, z, q z⟩
def compL (vs : List Nat) (asg : D → S → Option S) (c : M Bool) (elt : M D) : List D → List D → M (List D)
  | [], acc, s => some (acc, s)
  | d :: ds, acc, s => (asg d s).bind fun s1 => (c s1).bind fun p => match p.1 with
    | true => (elt p.2).bind fun y => if acc.length < sizeLine then compL vs asg c elt ds (acc ++ [y.1]) (wipeS vs y.2) else none
    | false => compL vs asg c elt ds acc (wipeS vs p.2)
def compM (vs : List Nat) (asg : D → S → Option S) (c : M Bool) (elt : M D) (items : List D) : M O := fun s => if noOwn vs s = true then (compL vs asg c elt items [] (wipeS vs s)).map fun r => (.lst r.1, restS s vs r.2) else none
section
variable {K : PySem.W.Frag} {mg : Str → Option Value} {sd : S} {σ : L2.St} {H W : Hp} {vs : List Nat} {g : TG} {asg : D → S → Option S} {c : M Bool} {elt : M D} {items : List D} {Dl : Addr}
def CT (K : PySem.W.Frag) (mg : Str → Option Value) (sd : S) (σ : L2.St) (H W : Hp) (vs : List Nat) (asg : D → S → Option S) (c : M Bool) (elt : M D) (items : List D) (r : List D × S) (Dl : Addr) (i : Nat) (H' : Hp) : Prop :=
  ∃ sd' W' acc av, St K mg sd' (wipe σ vs) H' W' ∧ Kp (wipeS vs sd) (wipe σ vs) H W sd' (wipe σ vs) H' W' ∧ W' Dl = none ∧ ¬ Own sd' (wipe σ vs) Dl ∧ H' Dl = some (.lst av) ∧ DRs K mg W' av acc ∧ compL vs asg c elt (items.drop i) acc sd' = some r
theorem CT.start {r : List D × S} (st : St K mg sd σ H W) (e : compL vs asg c elt items [] (wipeS vs sd) = some r) (hD : H Dl = none) : CT K mg sd σ H W vs asg c elt items r Dl 0 (upd H Dl (.lst [])) := by
  obtain ⟨g1, g2⟩ := (st.wipe (vs := vs)).newO hD (.lst [])
  exact ⟨_, W, [], [], g1, g2, st.free hD, fun z => st.notOwn hD z.wipe, upd_same, .nil, e⟩
theorem CT.turn {r : List D × S} {i : Nat} {x : V} {d : D} {H' : Hp} (hg : TGk K mg [] g asg) (hw : TGw vs g) (hd : items[i]? = some d) (hx : ∀ W', Le W W' → DR K mg W' x d) (hD : H Dl = none) (t : CT K mg sd σ H W vs asg c elt items r Dl i H') :
    g x (wipe σ vs) H' fun σ2 H2 => wipe σ2 vs = wipe σ vs ∧ tB K mg c σ2 H2 fun b H3 => if b = true then tD K mg elt σ2 H3 fun y H4 => ∃ acc, H4 Dl = some (HO.lst acc) ∧ acc.length < sizeLine ∧ CT K mg sd σ H W vs asg c elt items r Dl (i + 1) (upd H4 Dl (HO.lst (acc ++ [y])))
      else CT K mg sd σ H W vs asg c elt items r Dl (i + 1) H3 := by
  obtain ⟨sd', W', acc, av, st, k, w, n, hl, ra, em⟩ := t
  have hlt : i < items.length := (List.getElem?_eq_some_iff.mp hd).1
  have hd' : items[i] = d := (List.getElem?_eq_some_iff.mp hd).2
  rw [List.drop_eq_getElem_cons hlt, hd'] at em
  simp only [compL, Option.bind_eq_some_iff] at em
  obtain ⟨s1, e1, ⟨b, s2⟩, e2, em⟩ := em
  have ww : wipe (wipe σ vs) vs = wipe σ vs := wipe_wipe
  have := hw x (wipe σ vs) H' (fun σ2 H2 => tB K mg c σ2 H2 fun b H3 => if b = true then tD K mg elt σ2 H3 fun y H4 => ∃ acc, H4 Dl = some (HO.lst acc) ∧ acc.length < sizeLine ∧ CT K mg sd σ H W vs asg c elt items r Dl (i + 1) (upd H4 Dl (HO.lst (acc ++ [y])))
      else CT K mg sd σ H W vs asg c elt items r Dl (i + 1) H3) (hg x d sd' s1 (wipe σ vs) H' W' st (hx W' k.le) e1 _ fun σ1 H1 W1 st1 k1 _ hz => ?_)
  · rw [ww] at this; exact this
  rw [ww] at hz
  have kk : Kp (wipeS vs sd) (wipe σ vs) H W s1 σ1 H1 W1 := k.trans k1
  refine ⟨s1, W1, b, s2, st1, e2, fun H2 W2 st2 k2 => ?_⟩
  have keep : ∀ {s3 : S} {H3 W3 : Hp}, Kp sd' (wipe σ vs) H' W' s3 σ1 H3 W3 → H3 Dl = some (.lst av) ∧ W3 Dl = none ∧ ¬ Own s3 σ1 Dl := fun q =>
    ⟨q.keep Dl _ hl n rfl, q.new Dl w (by rw [hl]; simp) n, fun z => (q.own Dl z).elim n fun z => by rw [hl] at z; cases z⟩
  have wk : ∀ {s3 : S} {H3 W3 : Hp}, Kp (wipeS vs sd) (wipe σ vs) H W s3 σ1 H3 W3 → Kp (wipeS vs sd) (wipe σ vs) H W (wipeS vs s3) (wipe σ vs) H3 W3 := fun q =>
    ⟨q.le, q.keep, q.new, fun a z => q.own a (by rw [← hz] at z; exact z.wipe), q.there⟩
  cases b with
  | false =>
    refine iteF ?_
    obtain ⟨a1, a2, a3⟩ := keep (k1.trans k2)
    refine ⟨wipeS vs s2, W2, acc, av, by rw [← hz]; exact st2.wipe, wk (kk.trans k2), a2, fun z => a3 (by rw [← hz] at z; exact z.wipe), a1, ra.le (k1.le.trans k2.le), em⟩
  | true =>
    refine iteT ?_
    simp only [Option.bind_eq_some_iff] at em
    obtain ⟨⟨y, s3⟩, e3, em⟩ := em
    split at em
    · rename_i hsz
      refine ⟨s2, W2, y, s3, st2, e3, fun v H3 W3 st3 k3 r3 => ?_⟩
      obtain ⟨a1, a2, a3⟩ := keep ((k1.trans k2).trans k3)
      have k4 := (kk.trans k2).trans k3
      refine ⟨av, a1, by rw [ra.len]; exact hsz, wipeS vs s3, W3, acc ++ [y], av ++ [v], by rw [← hz]; exact ((st3.mut a2 a3 (mt_at a1 (by first | exact mt_lst | exact mt_dK | exact mt_ins | exact mt_dx)))).wipe, wk ?_, a2, fun z => a3 (by rw [← hz] at z; exact z.wipe), upd_same, (ra.le ((k1.le.trans k2.le).trans k3.le)).app (.cons r3 .nil), em⟩
      exact ⟨k4.le, fun a o h q => by rw [upd_ne (ne_of_none h hD)]; exact k4.keep a o h q, k4.new, k4.own, fun a h => by
        by_cases z : a = Dl
        · rw [z, upd_same]; simp
        · rw [upd_ne z]; exact k4.there a h⟩
    · cases em
theorem CT.done {r : List D × S} {H' : Hp} {n : Nat} (hn : items.length ≤ n) (st : St K mg sd σ H W) (no : noOwn vs sd = true) (t : CT K mg sd σ H W vs asg c elt items r Dl n H') (hD : H Dl = none) :
    ∃ W', St K mg (restS sd vs r.2) σ H' W' ∧ Kp sd σ H W (restS sd vs r.2) σ H' W' ∧ OR K mg H' W' Dl (.lst r.1) ∧ ¬ Own (restS sd vs r.2) σ Dl := by
  obtain ⟨sd', W', acc, av, st', k, w, n', hl, ra, em⟩ := t
  rw [List.drop_eq_nil_of_le hn] at em
  cases em
  obtain ⟨g1, g2⟩ := st'.rest st k.le no
  refine ⟨W', g1, ⟨k.le, fun a o h q => k.keep a o h fun z => q z.wipe, fun a h h' q => k.new a h h' fun z => q z.wipe, fun a h => (k.own a (g2 a h)).imp (fun z => z.wipe) id, k.there⟩, ⟨w, av, hl, ra⟩, fun z => n' (g2 _ z)⟩
end

section
variable {X : Cx} {e elt tg a b : Expr} {ifs : List Expr} {scope : Scope} {own : List (Str × Nat)} {pos p : Pos} {g : TG} {asg : D → S → Option S} {m : M D} {c : M Bool}
/-- the tests of a comprehension: none, one -/
abbrev PTB (X : Cx) (ifs : List Expr) (c : M Bool) : Prop := PTs X ifs (tB X.K X.mg c)
theorem pts_0 : PTB X [] (retM true) := ⟨fun pins s σ H Q I ⟨sd, W, k, sd', st, em, q⟩ => by
  cases em
  exact (pts_nil (X := X)).run pins s σ H Q I (q H W st Kp.refl)⟩
theorem pts_1 {t : Expr} (h : BT X t c) : PTB X [t] c := pts_one h
def cplL (mi : M D) (vs : List Nat) (asg : D → S → Option S) (c : M Bool) (elt : M D) : M O := fun s => (mi s).bind fun q => (itD q.1).bind fun ds => compM vs asg c elt ds q.2
def cplR (ms : M (List D)) (rng : List D → Option (List D)) (vs : List Nat) (asg : D → S → Option S) (c : M Bool) (elt : M D) : M O := fun s => (ms s).bind fun q => (rng q.1).bind fun ds => compM vs asg c elt ds q.2
theorem compM_some {vs : List Nat} {elt : M D} {items : List D} {s s' : S} {o : O} (h : compM vs asg c elt items s = some (o, s')) : noOwn vs s = true ∧ ∃ r, compL vs asg c elt items [] (wipeS vs s) = some r ∧ o = .lst r.1 ∧ s' = restS s vs r.2 := by
  unfold compM at h
  split at h
  · simp only [Option.map_eq_some_iff] at h
    obtain ⟨r, h, e⟩ := h
    cases e
    exact ⟨by assumption, r, h, rfl, rfl⟩
  · cases h
/-- what a comprehension over a list | a tuple | a range asks -/
theorem t_cplL {K : PySem.W.Frag} {mg : Str → Option Value} {mi : M D} {vs : List Nat} {el : M D} (hf : TGk K mg [] g asg) (hw : TGw vs g) {σ : L2.St} {H : Hp} {Q : VK} (h : tO K mg (cplL mi vs asg c el) σ H Q) :
    tLc (iList K (tD K mg mi)) g (tB K mg c) (tD K mg el) vs σ H Q ∨ tLc (iTup K (tD K mg mi)) g (tB K mg c) (tD K mg el) vs σ H Q ∨ tLc (iStr (tD K mg mi)) g (tB K mg c) (tD K mg el) vs σ H Q := by
  obtain ⟨sd, W, o, sd', st, em, q⟩ := h
  simp only [cplL, Option.bind_eq_some_iff] at em
  obtain ⟨⟨d, s1⟩, e1, ds, e2, em⟩ := em
  obtain ⟨no, r, e3, rfl, rfl⟩ := compM_some em
  cases d with
  | lst es =>
    cases e2
    refine .inl ⟨sd, W, _, s1, st, e1, fun v H1 W1 st1 k1 r1 => ?_⟩
    cases r1 with
    | @lst a vs' _ sa ra =>
      refine ⟨a, rfl, ⟨vs', .inl (.inl (st1.le _ _ sa))⟩, fun Dl hD => lc_list (K := K) (a := a) (xs := vs') (CT K mg s1 σ H1 W1 vs asg c el ds r Dl) (CT.start st1 e3 hD) (fun i H' _ ⟨sd', W', _, _, st', k', _⟩ => .inl (.inl (st'.le _ _ (k'.le _ _ sa)))) (fun i x H' hx t => ?_) fun H' t => ?_⟩
      · obtain ⟨d, hd, rd⟩ := ra.get' hx
        exact CT.turn hf hw hd (fun W' le => rd.le le) hD t
      · obtain ⟨W', g1, g2, g3, g4⟩ := CT.done (by rw [ra.len]; exact Nat.le_refl _) st1 no t hD
        exact q Dl H' W' g1 (k1.trans g2) g3 g4 (k1.fresh hD)
  | tup es =>
    cases e2
    refine .inr (.inl ⟨sd, W, _, s1, st, e1, fun v H1 W1 st1 k1 r1 => ?_⟩)
    cases r1 with
    | @tup a vs' _ sa ra =>
      refine ⟨a, rfl, ⟨vs', st_le st1.le sa⟩, fun Dl hD => lc_tup (K := K) (a := a) (xs := vs') (CT K mg s1 σ H1 W1 vs asg c el ds r Dl) (CT.start st1 e3 hD) (fun i H' _ ⟨sd', W', _, _, st', k', _⟩ => st_le (k'.le.trans st'.le) sa) (fun i x H' hx t => ?_) fun H' t => ?_⟩
      · obtain ⟨d, hd, rd⟩ := ra.get' hx
        exact CT.turn hf hw hd (fun W' le => rd.le le) hD t
      · obtain ⟨W', g1, g2, g3, g4⟩ := CT.done (by rw [ra.len]; exact Nat.le_refl _) st1 no t hD
        exact q Dl H' W' g1 (k1.trans g2) g3 g4 (k1.fresh hD)
  | str z =>
    cases e2
    refine .inr (.inr ⟨sd, W, _, s1, st, e1, fun v H1 W1 st1 k1 r1 => ?_⟩)
    cases r1
    refine ⟨z, rfl, fun Dl hD => ⟨fun i m' H' => CT K mg s1 σ H1 W1 vs asg c el (z.cps.toList.map fun c => .str ⟨#[c]⟩) r Dl i H' ∧ m' + i = z.cps.size, ⟨z.cps.size, CT.start st1 e3 hD, rfl⟩, ?_⟩⟩
    rintro i m' H' ⟨t, hm'⟩
    by_cases hi : i < z.cps.size
    · refine .inr ⟨hi, fun H2 => CT K mg s1 σ H1 W1 vs asg c el (z.cps.toList.map fun c => .str ⟨#[c]⟩) r Dl (i + 1) H2, fun H2 n => ⟨m' - 1, by omega, n, by omega⟩, ?_⟩
      rintro x H2 ⟨rfl, ch, hc, rfl⟩
      exact CT.turn hf hw (str_it hc) (fun W' le => .str _) hD t
    · refine .inl ⟨by show z.cps.size ≤ i; omega, ?_⟩
      obtain ⟨W', g1, g2, g3, g4⟩ := CT.done (by simp; omega) st1 no t hD
      exact q Dl H' W' g1 (k1.trans g2) g3 g4 (k1.fresh hD)
  | _ => cases e2
theorem t_cpl1 {K : PySem.W.Frag} {mg : Str → Option Value} {ms : M (List D)} {vs : List Nat} {el : M D} (hf : TGk K mg [] g asg) (hw : TGw vs g) {σ : L2.St} {H : Hp} {Q : VK} (h : tO K mg (cplR ms rng1 vs asg c el) σ H Q) :
    tLc (iRng1 (tL K mg ms)) g (tB K mg c) (tD K mg el) vs σ H Q := by
  obtain ⟨sd, W, o, sd', st, em, q⟩ := h
  simp only [cplR, Option.bind_eq_some_iff] at em
  obtain ⟨⟨d, s1⟩, e1, ds, e2, em⟩ := em
  obtain ⟨no, r, e3, rfl, rfl⟩ := compM_some em
  obtain ⟨j, hd, hj, hi⟩ := rng1_some e2
  subst hd hi
  refine ⟨sd, W, _, s1, st, e1, fun v H1 W1 st1 k1 r1 => ?_⟩
  cases r1 with
  | cons r1 r2 =>
    cases r1; cases r2
    refine ⟨j, rfl, hj.1, hj.2, fun Dl hD => lc_range (lo := 0) (n := j.toNat) (CT K mg s1 σ H1 W1 vs asg c el (rngD 0 j.toNat) r Dl) (CT.start st1 e3 hD) (fun i H' hi t => CT.turn hf hw (rngD_get hi) (fun W' le => .int _) hD t) fun H' t => ?_⟩
    obtain ⟨W', g1, g2, g3, g4⟩ := CT.done (by unfold rngD; simp) st1 no t hD
    exact q Dl H' W' g1 (k1.trans g2) g3 g4 (k1.fresh hD)
theorem o_lcL {mi : M D} {own : List (Str × Nat)} {vs : List Nat} (hvs : own.map (fun x => x.2) = vs) (hc : X.calm = true) (hN : X.N.Nodup) (hi : DE X e mi) (ok : BlkOk X.N X.env.scope scope own)
    (hg : ∀ (s : Shared) (H : Hp) (C : Addr) (cl : List (Str × Addr)) (fp : List Addr), PG (X.blk s H scope (compEnvC scope cl C X.env) fp) tg g) (hf : TGk X.K X.mg [] g asg) (hw : TGw vs g)
    (ht : ∀ (s : Shared) (H : Hp) (C : Addr) (cl : List (Str × Addr)) (fp : List Addr), PTs (X.blk s H scope (compEnvC scope cl C X.env) fp) ifs (tB X.K X.mg c))
    (he : ∀ (s : Shared) (H : Hp) (C : Addr) (cl : List (Str × Addr)) (fp : List Addr), PE (X.blk s H scope (compEnvC scope cl C X.env) fp) elt (tD X.K X.mg m)) (hfs : ∀ (x : Value), foldedSetIterable e X.env x = pure x := by intro _; rfl) :
    OE X (.ListComp elt [⟨tg, e, ifs, 0⟩] scope pos) (cplL mi vs asg c m) := by
  subst hvs
  have h1 := pe_lc (pos := pos) hc hN (pi_list (tg := tg) hi) ok hg ht he hfs
  have h2 := pe_lc (pos := pos) hc hN (pi_tup (tg := tg) hi) ok hg ht he hfs
  have h3 := pe_lc (pos := pos) hc hN (pi_str (tg := tg) hi) ok hg ht he hfs
  refine ⟨fun pins s σ H Q I h => ?_⟩
  rcases t_cplL hf hw h with h | h | h
  · exact h1.run pins s σ H Q I h
  · exact h2.run pins s σ H Q I h
  · exact h3.run pins s σ H Q I h
theorem o_lc1 {ms : M (List D)} {own : List (Str × Nat)} {vs : List Nat} {p3 : Pos} (hvs : own.map (fun x => x.2) = vs) (hc : X.calm = true) (hN : X.N.Nodup) (hi : LA X [a] ms) (hr : Gl X "range") (hm : X.mg "range" = none) (ok : BlkOk X.N X.env.scope scope own)
    (hg : ∀ (s : Shared) (H : Hp) (C : Addr) (cl : List (Str × Addr)) (fp : List Addr), PG (X.blk s H scope (compEnvC scope cl C X.env) fp) tg g) (hf : TGk X.K X.mg [] g asg) (hw : TGw vs g)
    (ht : ∀ (s : Shared) (H : Hp) (C : Addr) (cl : List (Str × Addr)) (fp : List Addr), PTs (X.blk s H scope (compEnvC scope cl C X.env) fp) ifs (tB X.K X.mg c))
    (he : ∀ (s : Shared) (H : Hp) (C : Addr) (cl : List (Str × Addr)) (fp : List Addr), PE (X.blk s H scope (compEnvC scope cl C X.env) fp) elt (tD X.K X.mg m)) (hs : starEach [a] X.env = [(false, eval a X.env)] := by rfl) :
    OE X (.ListComp elt [⟨tg, .Call (.Name "range" p) [a] [] p3, ifs, 0⟩] scope pos) (cplR ms rng1 vs asg c m) := by
  subst hvs
  exact PE.imp (pe_lc hc hN (pi_range1 hr hm hi hs) ok hg ht he) fun _ _ _ h => t_cpl1 hf hw h
end
end Fli
set_option Elab.async false
set_option linter.all false
set_option maxRecDepth 100000
set_option maxHeartbeats 4000000
namespace Fli
open PySem L2
variable [HW]

/-! defs: the promise is the body's mirror, run at the arguments -/
def startS (n : Nat) (as : List A) : S := as.map some ++ List.replicate (n - as.length) none
def callR (n : Nat) (body : MS) (as : List A) : Option Out := body (startS n as)
def endsOf (Q : VK) : Ends := { nx := fun _ H' => Q .non H', rt := Q }
def spM (K : PySem.W.Frag) (mg : Str → Option Value) (N ps : List Str) (pr : List Nat) (body : MS) : Sp := fun vs H Q _ => vs.length = ps.length ∧ tM K mg pr body (endsOf Q) (L2.start N vs) H
section
variable {P : Program} {w : World} {K : PySem.W.Frag} {mg : Str → Option Value} {base : Heap}
theorem def_ok {x qual : Str} {st : Stmt} {f : Addr} {fd : FuncData} {N ps : List Str} {k : Nat} {pr : List Nat} {body : MS} (F : Fun K x qual st f fd) (Sc : FnScope N ps (defScope st))
    (hb : ∀ (cdv : Value) (A : Around) (outer : List Env) (s : Shared) (H : Hp) (E : XK), Room k (A.deeper (PyProof.Rows.envOfC qual (defScope st) s.heap.objs.size f cdv)) → SEs (cxOf CX0 P w K mg base N qual (defScope st) f cdv A outer s H E).nox pr (defBody st) body) :
    FnOk P w K mg base CX0 (k + 1) f fd ps (spM K mg N ps pr body) :=
  F.ok Sc (fun vs H Q E h => h.1) fun cdv A outer s H vs Q E hr h => ⟨_, hb cdv A outer s H E hr, h.2⟩
end
section
variable {K : PySem.W.Frag} {mg : Str → Option Value} {sd sd' : S} {σ σ' : L2.St} {H H' W W' : Hp}
theorem startS_get {n : Nat} {as : List A} {i : Nat} {a : A} (h : (startS n as)[i]? = some (some a)) : as[i]? = some a := by
  unfold startS at h
  by_cases l : i < as.length
  · rw [List.getElem?_append_left (by rw [List.length_map]; exact l), List.getElem?_map] at h
    cases e : as[i]? with
    | none => rw [e] at h; cases h
    | some b => rw [e] at h; cases h; rfl
  · rw [List.getElem?_append_right (by rw [List.length_map]; omega), List.getElem?_replicate] at h
    split at h <;> cases h
theorem start_get {N : List Str} {vs : List V} {i : Nat} {v : V} (h : vs[i]? = some v) : (L2.start N vs)[i]? = some (some v) := by
  unfold L2.start
  have l := (List.getElem?_eq_some_iff.mp h).1
  rw [List.getElem?_append_left (by rw [List.length_map]; exact l), List.getElem?_map, h]; rfl
theorem startS_len {n : Nat} {as : List A} {N : List Str} {vs : List V} (hn : N.length = n) (h : vs.length = as.length) : (startS n as).length = (L2.start N vs).length := by
  unfold startS L2.start
  simp [h, hn]
theorem map_d_own {ds : List D} {i : Nat} {o : O} (h : (ds.map A.d)[i]? = some (.own o)) : False := by
  rw [List.getElem?_map] at h
  cases e : ds[i]? with
  | none => rw [e] at h; cases h
  | some b => rw [e] at h; cases h
/-- a callee that gets data alone -/
theorem St.call {N : List Str} {n : Nat} {vs : List V} {ds : List D} (st : St K mg sd σ H W) (hn : N.length = n) (r : DRs K mg W vs ds) : St K mg (startS n (ds.map .d)) (L2.start N vs) H W where
  tabs := st.tabs
  le := st.le
  len := startS_len hn (by rw [r.len, List.length_map])
  dat := fun i d h => by
    have h := startS_get h
    rw [List.getElem?_map] at h
    cases e : ds[i]? with
    | none => rw [e] at h; cases h
    | some b =>
      rw [e] at h; cases h
      obtain ⟨v, e1, r1⟩ := r.get e
      exact ⟨v, start_get e1, r1⟩
  own := fun i o h => (map_d_own (startS_get h)).elim
  inj := fun i j o u a h1 _ _ _ => (map_d_own (startS_get h1)).elim
theorem noown_start {n : Nat} {ds : List D} {a : Addr} : ¬ Own (startS n (ds.map .d)) σ a := fun ⟨i, o, h, _⟩ => map_d_own (startS_get h)
/-- behind a call that was lent nothing -/
theorem St.after {sc : S} {σc : L2.St} {s2 : S} {σ2 : L2.St} (st : St K mg sd σ H W) (k : Kp sc σc H W s2 σ2 H' W') (st2 : St K mg s2 σ2 H' W') (no : ∀ a, ¬ Own sc σc a) : St K mg sd σ H' W' ∧ Kp sd σ H W sd σ H' W' :=
  st.growN k.le st2.le (fun a o h => k.keep a o h (no a)) k.there (fun a h h' => k.new a h h' (no a)) st2.tabs
end

section
variable {X : Cx} {k n : Nat} {f : Addr} {fd : FuncData} {N ps : List Str} {pr : List Nat} {body : MS} {dvs : List V} {dd : List D} {ds : List Value} {x : Str} {p pos p2 : Pos} {e : Expr} {es : List Expr} {ms : M (List D)}
def callD (n : Nat) (body : MS) (ms : M (List D)) (dd : List D) : M D := fun s => (ms s).bind fun q => (callR n body ((q.1 ++ dd).map .d)).bind fun o => match o with
  | .rd d _ => some (d, q.2)
  | .nx _ => some (.non, q.2)
  | _ => none
def callO (n : Nat) (body : MS) (ms : M (List D)) (dd : List D) : M O := fun s => (ms s).bind fun q => (callR n body ((q.1 ++ dd).map .d)).bind fun o => match o with
  | .ro o _ => some (o, q.2)
  | _ => none
theorem t_callD {K : PySem.W.Frag} {mg : Str → Option Value} {E : XK} (hn : N.length = n) (hl : ∀ (q : List D) (s s' : S), ms s = some (q, s') → (q ++ dd).length = ps.length) (hd : ∀ W, DRs K mg W dvs dd) {σ : L2.St} {H : Hp} {Q : VK} (h : tD K mg (callD n body ms dd) σ H Q) : tCall (spM K mg N ps [] body) dvs E (tL K mg ms) σ H Q := by
  obtain ⟨sd, W, d, sd', st, em, q⟩ := h
  simp only [callD, Option.bind_eq_some_iff] at em
  obtain ⟨⟨xs, s1⟩, e1, o, e2, em⟩ := em
  refine ⟨sd, W, xs, s1, st, e1, fun vs H1 W1 st1 k1 r1 => ?_⟩
  have r2 := r1.app (hd W1)
  refine ⟨by rw [r2.len]; exact hl _ _ _ e1, startS n ((xs ++ dd).map .d), W1, o, st1.call hn r2, e2, ?_⟩
  cases o with
  | rd d' s2 =>
    cases em
    intro v σ2 H2 W2 st2 k2 _ r
    obtain ⟨g1, g2⟩ := st1.after k2 st2 fun a => noown_start
    exact q v H2 W2 g1 (k1.trans g2) r
  | nx s2 =>
    cases em
    intro σ2 H2 W2 st2 k2 _
    obtain ⟨g1, g2⟩ := st1.after k2 st2 fun a => noown_start
    exact q _ H2 W2 g1 (k1.trans g2) .non
  | _ => cases em
theorem t_callO {K : PySem.W.Frag} {mg : Str → Option Value} {E : XK} (hn : N.length = n) (hl : ∀ (q : List D) (s s' : S), ms s = some (q, s') → (q ++ dd).length = ps.length) (hd : ∀ W, DRs K mg W dvs dd) {σ : L2.St} {H : Hp} {Q : VK} (h : tO K mg (callO n body ms dd) σ H Q) : tCall (spM K mg N ps [] body) dvs E (tL K mg ms) σ H Q := by
  obtain ⟨sd, W, d, sd', st, em, q⟩ := h
  simp only [callO, Option.bind_eq_some_iff] at em
  obtain ⟨⟨xs, s1⟩, e1, o, e2, em⟩ := em
  refine ⟨sd, W, xs, s1, st, e1, fun vs H1 W1 st1 k1 r1 => ?_⟩
  have r2 := r1.app (hd W1)
  refine ⟨by rw [r2.len]; exact hl _ _ _ e1, startS n ((xs ++ dd).map .d), W1, o, st1.call hn r2, e2, ?_⟩
  cases o with
  | ro o' s2 =>
    cases em
    intro p σ2 H2 W2 st2 k2 _ r nn hf
    have hp : H1 p = none := hf.elim id fun z => (noown_start z.1).elim
    obtain ⟨g1, g2⟩ := st1.after k2 st2 fun a => noown_start
    exact q p H2 W2 g1 (k1.trans g2) r (fun z => (g2.own p z).elim (fun z => st1.notOwn hp z) fun _ => st1.notOwn hp z) (k1.fresh hp)
  | _ => cases em
/-- the length of an argument list -/
def LenIs (ms : M (List D)) (n : Nat) : Prop := ∀ (q : List D) (s s' : S), ms s = some (q, s') → q.length = n
theorem len_nil : LenIs (retM []) 0 := fun q s s' h => by cases h; rfl
theorem len_cons {m : M D} {ms : M (List D)} {n : Nat} (h : LenIs ms n) : LenIs (bindM m fun d => bindM ms fun ds => retM (d :: ds)) (n + 1) := fun q s s' e => by
  obtain ⟨x, s1, e1, em⟩ := bindM_some e
  obtain ⟨xs, s2, e2, em⟩ := bindM_some em
  cases em
  simp [h _ _ _ e2]
theorem e_call {j : Nat} (F : FnOk X.prog X.w X.K X.mg X.base CX0 k f fd ps (spM X.K X.mg N ps [] body)) (hr : Room k X.A) (hg : Gl X x) (hm : X.mg x = some (.ref f)) (hk : PySem.W.keepIn X.K (.ref f) = true) (hb : Binds X.K fd ps ds) (hd : Vals dvs ds)
    (hdd : ∀ W, DRs X.K X.mg W dvs dd) (hn : N.length = n) (hs : LA X (e :: es) ms) (hl : LenIs ms j) (hj : j + dd.length = ps.length) (hdb : (x == ("__debug__" : Str)) = false := by decide) (he : starEach (e :: es) X.env = (false, eval e X.env) :: starEach es X.env := by rfl) (hpl : (backTo pos (starEach es X.env)).any (·.1) = false := by rfl) :
    DE X (.Call (.Name x p) (e :: es) [] pos) (callD n body ms dd) := PE.imp (pe_call F hr hg hm hk hb hd pass0 hs hdb he hpl) fun σ H Q h => t_callD (E := E0) hn (fun q s s' z => by rw [List.length_append, hl q s s' z]; exact hj) hdd h
theorem o_call {j : Nat} (F : FnOk X.prog X.w X.K X.mg X.base CX0 k f fd ps (spM X.K X.mg N ps [] body)) (hr : Room k X.A) (hg : Gl X x) (hm : X.mg x = some (.ref f)) (hk : PySem.W.keepIn X.K (.ref f) = true) (hb : Binds X.K fd ps ds) (hd : Vals dvs ds)
    (hdd : ∀ W, DRs X.K X.mg W dvs dd) (hn : N.length = n) (hs : LA X (e :: es) ms) (hl : LenIs ms j) (hj : j + dd.length = ps.length) (hdb : (x == ("__debug__" : Str)) = false := by decide) (he : starEach (e :: es) X.env = (false, eval e X.env) :: starEach es X.env := by rfl) (hpl : (backTo pos (starEach es X.env)).any (·.1) = false := by rfl) :
    OE X (.Call (.Name x p) (e :: es) [] pos) (callO n body ms dd) := PE.imp (pe_call F hr hg hm hk hb hd pass0 hs hdb he hpl) fun σ H Q h => t_callO (E := E0) hn (fun q s s' z => by rw [List.length_append, hl q s s' z]; exact hj) hdd h
end

/-! a first argument that is lent: a slot's own list, changed by the callee -/
section
variable {K : PySem.W.Frag} {mg : Str → Option Value} {sd : S} {σ : L2.St} {H H' W W' : Hp}
theorem lent_get {n : Nat} {o : O} {ds : List D} {i : Nat} {a : A} (h : (startS n (.own o :: ds.map .d))[i]? = some (some a)) : (i = 0 ∧ a = .own o) ∨ ∃ j d, i = j + 1 ∧ ds[j]? = some d ∧ a = .d d := by
  have h := startS_get h
  cases i with
  | zero => cases h; exact .inl ⟨rfl, rfl⟩
  | succ j =>
    rw [List.getElem?_cons_succ, List.getElem?_map] at h
    cases e : ds[j]? with
    | none => rw [e] at h; cases h
    | some b => rw [e] at h; cases h; exact .inr ⟨j, b, rfl, e, rfl⟩
theorem St.lend {N : List Str} {n : Nat} {vs : List V} {ds : List D} {a : Addr} {o : O} (st : St K mg sd σ H W) (hn : N.length = n) (r : DRs K mg W vs ds) (ro : OR K mg H W a o) :
    St K mg (startS n (.own o :: ds.map .d)) (L2.start N (.ref a :: vs)) H W ∧ ∀ b, Own (startS n (.own o :: ds.map .d)) (L2.start N (.ref a :: vs)) b → b = a := by
  have s0 : (L2.start N (.ref a :: vs))[0]? = some (some (.ref a)) := start_get rfl
  refine ⟨⟨st.tabs, st.le, startS_len hn (by simp [r.len]), fun i d h => ?_, fun i u h => ?_, fun i j u w b h1 h2 _ _ => ?_⟩, fun b ⟨i, u, h, e⟩ => ?_⟩
  · rcases lent_get h with ⟨_, h⟩ | ⟨j, d', rfl, h, e⟩
    · cases h
    · cases e
      obtain ⟨v, e1, r1⟩ := r.get h
      exact ⟨v, start_get (by simpa using e1), r1⟩
  · rcases lent_get h with ⟨rfl, h⟩ | ⟨j, d', rfl, h, e⟩
    · cases h; exact ⟨a, s0, ro⟩
    · cases e
  · rcases lent_get h1 with ⟨rfl, _⟩ | ⟨_, _, _, _, e⟩
    · rcases lent_get h2 with ⟨rfl, _⟩ | ⟨_, _, _, _, e⟩
      · rfl
      · cases e
    · cases e
  · rcases lent_get h with ⟨rfl, _⟩ | ⟨_, _, _, _, z⟩
    · rw [s0] at e; cases e; rfl
    · cases z
/-- behind such a call -/
theorem St.back {sc : S} {σc : L2.St} {s2 : S} {σ2 : L2.St} {i : Nat} {a : Addr} {o o' : O} (st : St K mg sd σ H W) (e : sd[i]? = some (some (.own o))) (ea : σ[i]? = some (some (.ref a))) (k : Kp sc σc H W s2 σ2 H' W') (st2 : St K mg s2 σ2 H' W') (no : ∀ b, Own sc σc b → b = a) (ha : H a ≠ none) (r : OR K mg H' W' a o') :
    St K mg (sd.set i (some (.own o'))) σ H' W' ∧ Kp sd σ H W (sd.set i (some (.own o'))) σ H' W' := by
  have hi : i < sd.length := (List.getElem?_eq_some_iff.mp e).1
  have ow : Own sd σ a := ⟨i, o, e, ea⟩
  have back : ∀ (j : Nat) (u : O), (sd.set i (some (A.own o')))[j]? = some (some (A.own u)) → ∃ u', sd[j]? = some (some (A.own u')) := fun j u h => by
    by_cases z : i = j
    · subst z; exact ⟨o, e⟩
    · rw [List.getElem?_set_ne z] at h; exact ⟨u, h⟩
  have nn : ∀ b, b ≠ a → ¬ Own sc σc b := fun b z q => z (no b q)
  refine ⟨⟨st2.tabs, st2.le, by rw [List.length_set]; exact st.len, fun j d h => ?_, fun j u h => ?_, fun j l u u' x h1 h2 => ?_⟩, ⟨k.le, fun x u h n => k.keep x u h (nn x fun z => n (z ▸ ow)), fun x h h' n => k.new x h h' (nn x fun z => n (z ▸ ow)), fun x ⟨j, u, h1, h2⟩ => ?_, k.there⟩⟩
  · have ne : i ≠ j := fun z => by subst z; rw [List.getElem?_set_self hi] at h; cases h
    rw [List.getElem?_set_ne ne] at h
    obtain ⟨v, e1, r1⟩ := st.dat j d h
    exact ⟨v, e1, r1.le k.le⟩
  · by_cases z : i = j
    · subst z
      rw [List.getElem?_set_self hi] at h; cases h
      exact ⟨a, ea, r⟩
    · rw [List.getElem?_set_ne z] at h
      obtain ⟨x, e1, w1, r1⟩ := st.own j u h
      have ne : x ≠ a := fun q => z (st.inj i j o u a e h ea (q ▸ e1))
      cases u with
      | lst ds =>
        obtain ⟨vs, q1, q2⟩ := r1
        exact ⟨x, e1, k.new x w1 (by rw [q1]; simp) (nn x ne), vs, k.keep _ _ q1 (nn x ne) rfl, q2.le k.le⟩
      | obj c fs =>
        obtain ⟨C, dx, gs, q0, q1, q2⟩ := r1
        exact ⟨x, e1, k.new x w1 (by rw [q1]; simp) (nn x ne), C, dx, gs, q0, k.keep _ _ q1 (nn x ne) rfl, q2.le k.le⟩
      | dic kvs =>
        obtain ⟨gs, q1, q2⟩ := r1
        exact ⟨x, e1, k.new x w1 (by rw [q1]; simp) (nn x ne), gs, k.keep _ _ q1 (nn x ne) rfl, q2.le k.le⟩
      | dit kvs =>
        obtain ⟨gs, q1, q2⟩ := r1
        exact ⟨x, e1, k.new x w1 (by rw [q1]; simp) (nn x ne), gs, k.keep _ _ q1 (nn x ne) rfl, q2.le k.le⟩
  · obtain ⟨v, h1⟩ := back j u h1
    obtain ⟨v', h2⟩ := back l u' h2
    exact st.inj j l v v' x h1 h2
  · obtain ⟨v, h1⟩ := back j u h1
    exact .inl ⟨j, v, h1, h2⟩
end
end Fli
set_option Elab.async false
set_option linter.all false
set_option maxRecDepth 100000
set_option maxHeartbeats 4000000
namespace Fli
open PySem L2
variable [HW]

def slotO (i : Nat) (s : S) : Option O := match s[i]? with
  | some (some (.own o)) => some o
  | _ => none
theorem slotO_some {s : S} {i : Nat} {o : O} (h : slotO i s = some o) : s[i]? = some (some (.own o)) := by
  unfold slotO at h
  split at h
  · cases h; assumption
  · cases h
def firstO (s : S) : Option O := slotO 0 s
theorem firstO_some {s : S} {o : O} (h : firstO s = some o) : s[0]? = some (some (.own o)) := slotO_some h
def lendD (n : Nat) (body : MS) (i : Nat) (ms : M (List D)) : M D := fun s => (slotO i s).bind fun _ => (ms s).bind fun q => (slotO i q.2).bind fun o => (callR n body (.own o :: q.1.map .d)).bind fun r => match r with
  | .rd d s2 => (firstO s2).map fun o' => (d, q.2.set i (some (.own o')))
  | .nx s2 => (firstO s2).map fun o' => (.non, q.2.set i (some (.own o')))
  | _ => none
section
variable {K : PySem.W.Frag} {mg : Str → Option Value} {k n i : Nat} {N ps : List Str} {body : MS} {ms : M (List D)} {E : XK}
/-- the slot's object, at the call's end -/
theorem own_end {sc : S} {s2 : S} {σ2 σ : L2.St} {vs : List V} {H H2 W2 : Hp} {a : Addr} {o' : O} (st2 : St K mg s2 σ2 H2 W2) (p : Pr [0] (L2.start N (.ref a :: vs)) σ2) (h : firstO s2 = some o') : OR K mg H2 W2 a o' := by
  obtain ⟨b, e, r⟩ := st2.own 0 o' (firstO_some h)
  rw [p 0 (by simp), start_get (N := N) (vs := .ref a :: vs) (i := 0) rfl] at e
  cases e
  exact r
theorem t_lendD (hn : N.length = n) {j : Nat} (hl : LenIs ms j) (hj : j + 1 = ps.length) {σ : L2.St} {H : Hp} {Q : VK} (h : tD K mg (lendD n body i ms) σ H Q) : tCall (spM K mg N ps [0] body) [] E (tCons (tVar i) (tL K mg ms)) σ H Q := by
  obtain ⟨sd, W, d, sd', st, em, q⟩ := h
  simp only [lendD, Option.bind_eq_some_iff] at em
  obtain ⟨o0, e0, ⟨xs, s1⟩, e1, o, e2, r, e3, em⟩ := em
  obtain ⟨a, ha, r0⟩ := st.own i o0 (slotO_some e0)
  refine ⟨_, ha, sd, W, xs, s1, st, e1, fun vs H1 W1 st1 k1 r1 => ?_⟩
  have es := slotO_some e2
  obtain ⟨a', ha', ro⟩ := st1.own i o es
  rw [ha] at ha'; cases ha'
  obtain ⟨sl, no⟩ := st1.lend (N := N) hn r1 ro
  have hne : H1 a ≠ none := by
    obtain ⟨_, z⟩ := ro
    cases o with
    | lst ds => obtain ⟨vs, z, _⟩ := z; rw [z]; simp
    | obj c fs => obtain ⟨C, dx, gs, _, z, _⟩ := z; rw [z]; simp
    | dic kvs => obtain ⟨gs, z, _⟩ := z; rw [z]; simp
    | dit kvs => obtain ⟨gs, z, _⟩ := z; rw [z]; simp
  show spM K mg N ps [0] body ((.ref a :: vs) ++ []) H1 Q E
  rw [List.append_nil]
  refine ⟨by rw [List.length_cons, r1.len, hl _ _ _ e1]; exact hj, _, W1, r, sl, e3, ?_⟩
  cases r with
  | rd d' s2 =>
    simp only [Option.map_eq_some_iff] at em
    obtain ⟨o', e4, em⟩ := em
    cases em
    intro v σ2 H2 W2 st2 k2 p2 rr
    obtain ⟨g1, g2⟩ := st1.back es ha k2 st2 no hne (own_end (sc := s2) (σ := σ) (H := H) st2 p2 e4)
    exact q v H2 W2 g1 (k1.trans g2) rr
  | nx s2 =>
    simp only [Option.map_eq_some_iff] at em
    obtain ⟨o', e4, em⟩ := em
    cases em
    intro σ2 H2 W2 st2 k2 p2
    obtain ⟨g1, g2⟩ := st1.back es ha k2 st2 no hne (own_end (sc := s2) (σ := σ) (H := H) st2 p2 e4)
    exact q _ H2 W2 g1 (k1.trans g2) .non
  | _ => cases em
end
section
variable {X : Cx} {k n i : Nat} {f : Addr} {fd : FuncData} {N ps : List Str} {body : MS} {x y : Str} {p pos p2 : Pos} {e : Expr} {es : List Expr} {ms : M (List D)} {mo : M O}
theorem e_lend (i : Nat) {j : Nat} (F : FnOk X.prog X.w X.K X.mg X.base CX0 k f fd ps (spM X.K X.mg N ps [0] body)) (hr : Room k X.A) (hg : Gl X x) (hm : X.mg x = some (.ref f)) (hk : PySem.W.keepIn X.K (.ref f) = true) (hb : Binds X.K fd ps [])
    (hn : N.length = n) (hy : PE X (.Name y p2) (tVar i)) (hs : LA X es ms) (hl : LenIs ms j) (hj : j + 1 = ps.length) (hdb : (x == ("__debug__" : Str)) = false := by decide) (he : starEach (.Name y p2 :: es) X.env = (false, eval (.Name y p2) X.env) :: starEach es X.env := by rfl) (hpl : (backTo pos (starEach es X.env)).any (·.1) = false := by rfl) :
    DE X (.Call (.Name x p) (.Name y p2 :: es) [] pos) (lendD n body i ms) := PE.imp (pe_call F hr hg hm hk hb .nil pass0 (pa_cons hy hs he) hdb he hpl) fun σ H Q h => t_lendD (E := E0) hn hl hj h
/-- f(e), e a new object that f gets for its own -/
def giveD (n : Nat) (body : MS) (m : M O) : M D := fun s => (m s).bind fun q => (callR n body [.own q.1]).bind fun r => match r with
  | .rd d _ => some (d, q.2)
  | .nx _ => some (.non, q.2)
  | _ => none
theorem t_giveD {K : PySem.W.Frag} {mg : Str → Option Value} {E : XK} (hn : N.length = n) (hj : 1 = ps.length) {σ : L2.St} {H : Hp} {Q : VK} (h : tD K mg (giveD n body mo) σ H Q) : tCall (spM K mg N ps [0] body) [] E (tCons (tO K mg mo) tNil) σ H Q := by
  obtain ⟨sd, W, d, sd', st, em, q⟩ := h
  simp only [giveD, Option.bind_eq_some_iff] at em
  obtain ⟨⟨o, s1⟩, e1, r, e2, em⟩ := em
  refine ⟨sd, W, o, s1, st, e1, fun a H1 W1 st1 k1 ro nn hp => ?_⟩
  obtain ⟨sl, no⟩ := st1.lend (N := N) (n := n) (ds := []) (vs := []) hn .nil ro
  refine ⟨hj, _, W1, r, sl, e2, ?_⟩
  have fin : ∀ {s2 : S} {σ2 : L2.St} {H2 W2 : Hp}, St K mg s2 σ2 H2 W2 → Kp (startS n (.own o :: List.map A.d [])) (L2.start N [.ref a]) H1 W1 s2 σ2 H2 W2 → St K mg s1 σ H2 W2 ∧ Kp sd σ H W s1 σ H2 W2 := fun {s2 σ2 H2 W2} st2 k2 => by
    have ne : ∀ b, b ≠ a → ¬ Own (startS n (.own o :: List.map A.d [])) (L2.start N [.ref a]) b := fun b z y => z (no b y)
    refine ⟨⟨st2.tabs, st2.le, st1.len, fun j d h => ?_, fun j u h => ?_, st1.inj⟩, ⟨k1.le.trans k2.le, fun x u h z t => ?_, fun x h h' z => ?_, k1.own, fun x h => k2.there x (k1.there x h)⟩⟩
    · obtain ⟨v, e, r⟩ := st1.dat j d h
      exact ⟨v, e, r.le k2.le⟩
    · obtain ⟨x, e, w1, r1⟩ := st1.own j u h
      have nx : x ≠ a := fun z => nn ⟨j, u, h, z ▸ e⟩
      cases u with
      | lst ds =>
        obtain ⟨vs, q1, q2⟩ := r1
        exact ⟨x, e, k2.new x w1 (by rw [q1]; simp) (ne x nx), vs, k2.keep _ _ q1 (ne x nx) rfl, q2.le k2.le⟩
      | obj c fs =>
        obtain ⟨C, dx, gs, q0, q1, q2⟩ := r1
        exact ⟨x, e, k2.new x w1 (by rw [q1]; simp) (ne x nx), C, dx, gs, q0, k2.keep _ _ q1 (ne x nx) rfl, q2.le k2.le⟩
      | dic kvs =>
        obtain ⟨gs, q1, q2⟩ := r1
        exact ⟨x, e, k2.new x w1 (by rw [q1]; simp) (ne x nx), gs, k2.keep _ _ q1 (ne x nx) rfl, q2.le k2.le⟩
      | dit kvs =>
        obtain ⟨gs, q1, q2⟩ := r1
        exact ⟨x, e, k2.new x w1 (by rw [q1]; simp) (ne x nx), gs, k2.keep _ _ q1 (ne x nx) rfl, q2.le k2.le⟩
    · have nx : x ≠ a := ne_of_none h hp
      exact k2.keep x u (k1.keep x u h z t) (ne x nx) t
    · have nx : x ≠ a := fun y => h' (y ▸ hp)
      exact k2.new x (k1.new x h h' z) (k1.there x h') (ne x nx)
  cases r with
  | rd d' s2 =>
    cases em
    intro v σ2 H2 W2 st2 k2 _ rr
    obtain ⟨g1, g2⟩ := fin st2 k2
    exact q v H2 W2 g1 g2 rr
  | nx s2 =>
    cases em
    intro σ2 H2 W2 st2 k2 _
    obtain ⟨g1, g2⟩ := fin st2 k2
    exact q _ H2 W2 g1 g2 .non
  | _ => cases em
end
end Fli
set_option Elab.async false
set_option linter.all false
set_option maxRecDepth 100000
set_option maxHeartbeats 4000000
namespace Fli
open PySem PySem.Spec PyProof.Rows L2
variable [HW]

/-! defs that are called where no repr is under way -/
structure FnG (P : Program) (w : World) (K : PySem.W.Frag) (mg : Str → Option Value) (base : Heap)
    (k : Nat) (f : Addr) (fd : FuncData) (ps : List Str) (sp : Sp) : Prop where
  len : ∀ {vs H Q E}, sp vs H Q E → vs.length = ps.length
  run : ∀ {A : Around} {outer : List Env} {s : Shared} {H : Hp} {args : Args}
    {us : List Value} {vs : List V} {Q : VK} {E : XK}, A.guards = some [] → Room k A →
    Env0 P w K mg base A outer s H → BindsTo s fd args (ps.zip us) → Vals vs us → sp vs H Q E →
    codeAny (model P w) A (.call (.ref f) args) (CR CX0 outer P w H s Q E) s

section
variable {P : Program} {w : World} {K : PySem.W.Frag} {mg : Str → Option Value} {base : Heap}
theorem g_ok {x qual : Str} {st : Stmt} {f : Addr} {fd : FuncData} {N ps : List Str} {k : Nat} {pr : List Nat} {body : MS}
    (F : Fun K x qual st f fd) (Sc : FnScope N ps (defScope st))
    (hb : ∀ (cdv : Value) (A : Around) (outer : List Env) (s : Shared) (H : Hp) (E : XK), A.guards = some [] →
      Room k (A.deeper (PyProof.Rows.envOfC qual (defScope st) s.heap.objs.size f cdv)) →
      SEs (cxOf CX0 P w K mg base N qual (defScope st) f cdv A outer s H E).nox pr (defBody st) body) :
    FnG P w K mg base (k + 1) f fd ps (spM K mg N ps pr body) := by
  obtain ⟨oc, od, kV, doc, pm, an, cdv, ct, osl, rfl, lk, hcd⟩ := F.ex
  constructor
  · intro vs H Q E h; exact h.1
  intro A outer s H args us vs Q E hg hr env bind rel prom
  have inK : K.In s.heap := env.mod.kin.keeps fun b o q => (env.bs b o q).1
  have free : s.heap.NoLimit := env.mod.nolimit.keeps fun b o q => (env.bs b o q).1
  have kinds : ∀ y ∈ ps.zip us, (defScope st).names.lookup y.1 = some .local ∨
      ((defScope st).names.lookup y.1 = some .cell ∧
        ((cellsFrom (s.heap.objs.size + 1) (defScope st).names []).lookup y.1).isSome = true) := by
    rintro ⟨a, b⟩ hy
    exact (Sc.par a (List.of_mem_zip hy).1).imp id fun z => ⟨z, PySem.W.cellsFrom_some _ _ _ (.inl z)⟩
  refine codeAny_call_function hr.depth (inK _ _ lk) rfl Sc.co Sc.gen rfl
    (PySem.W.codeRec_of inK hcd) (bind _ _ _ _ ?_)
  refine wpAny_newFunctionEnv_cells Sc.kind kinds fun env' he s1 x => ?_
  subst he
  refine ⟨free.keeps x.toInCall.keep, codeAny_func ?_⟩
  have body_ok := (hb cdv A outer s H E hg (hr.deeper _)).nox
  have inv : Inv (cxOf CX0 P w K mg base N qual (defScope st) f cdv A outer s H E) [] (L2.start N vs) H s1 :=
    inv_start Sc hr.hd env prom.1 rel x
  refine wpAny_mono (body_ok.run [] s1 (L2.start N vs) H _ inv prom.2) (fun fl s' z => ?_) fun _ _ z => z
  cases fl with
  | next =>
    obtain ⟨a, b, J, q⟩ := z
    exact ⟨.non, b, J.os, J.bare, J.base, J.hok, rfl, q⟩
  | ret u =>
    obtain ⟨v, a, b, J, r, q⟩ := z
    exact ⟨v, b, J.os, J.bare, J.base, J.hok, r, q⟩
  | brk => obtain ⟨_, _, _, q⟩ := z; exact q.elim
  | cont => obtain ⟨_, _, _, q⟩ := z; exact q.elim
end

section
variable {X : Cx} {k n : Nat} {f : Addr} {fd : FuncData} {N ps : List Str} {sp : Sp} {body : MS} {x : Str} {p pos : Pos} {e : Expr} {es : List Expr} {t : TA} {mo : M O}
theorem pe_callG (F : FnG X.prog X.w X.K X.mg X.base k f fd ps sp) (gd : X.A.guards = some []) (hr : Room k X.A) (hg : Gl X x) (hm : X.mg x = some (.ref f))
    (hk : PySem.W.keepIn X.K (.ref f) = true) (hb : Binds X.K fd ps []) (ha : PA X (e :: es) t) (hdb : (x == ("__debug__" : Str)) = false := by decide)
    (he : starEach (e :: es) X.env = (false, eval e X.env) :: starEach es X.env := by rfl)
    (hpl : (backTo pos (starEach es X.env)).any (·.1) = false := by rfl) :
    PE X (.Call (.Name x p) (e :: es) [] pos) (tCall sp [] E0 t) := by
  constructor
  intro pins s σ H Q I h
  refine wpAny_Call_Name_kw (ld_glob I hg hm (PySem.W.callWith_K (h₀ := X.base) I.ok.mod.kin hk ?_ he hpl) hdb)
  refine thn (ha.run pos pins s σ H _ I h) ?_
  rintro us s1 ⟨vs, H1, I1, r, q⟩
  refine ⟨I1.kIn, ?_⟩
  rw [List.append_nil] at q
  have hl : us.length = ps.length := by rw [← r.length]; exact F.len q
  have hbind := hb s1 us I1.kIn (by rw [List.append_nil]; exact hl)
  rw [List.append_nil] at hbind
  refine wpAny_call (codeAny_mono (F.run gd hr I1.env0 hbind r q) ?_)
  intro res s2 hres
  cases res with
  | error er => exact pass0 pins σ H1 s1 er s2 I1 hres
  | ok fl => cases fl with
    | ret u => exact I1.after hres
    | next => exact hres.elim
    | brk => exact hres.elim
    | cont => exact hres.elim
theorem e_giveG (F : FnG X.prog X.w X.K X.mg X.base k f fd ps (spM X.K X.mg N ps [0] body)) (gd : X.A.guards = some []) (hr : Room k X.A) (hg : Gl X x) (hm : X.mg x = some (.ref f))
    (hk : PySem.W.keepIn X.K (.ref f) = true) (hb : Binds X.K fd ps []) (hn : N.length = n) (hj : 1 = ps.length) (ha : OE X e mo) (hdb : (x == ("__debug__" : Str)) = false := by decide)
    (he : starEach [e] X.env = (false, eval e X.env) :: starEach [] X.env := by rfl) (hpl : (backTo pos (starEach [] X.env)).any (·.1) = false := by rfl) :
    DE X (.Call (.Name x p) [e] [] pos) (giveD n body mo) := PE.imp (pe_callG F gd hr hg hm hk hb (pa_cons ha pa_nil he) hdb he hpl) fun σ H Q h => t_giveD (E := E0) hn hj h
end

/-! repr -/
section
variable {X : Cx}
def rRepr (K : PySem.W.Frag) : List V → Hp → VK → Prop := fun xs H Q => ∃ v d, xs = [v] ∧ Dp K H v d ∧ d.showable = true ∧ d.hasDict = false ∧ isDisplay d = true ∧ d.depth ≤ 64 ∧ d.shown.length ≤ sizeLine ∧ Q (.str d.shown) H
theorem call_repr (gd : X.A.guards = some []) (hu : X.A.units + 66 < cLine) : CallR X (.builtin "repr") (rRepr X.K) := by
  intro pins s σ H xs us Q I r h
  obtain ⟨v, d, rfl, hd, h1, h2, h3, h4, h5, q⟩ := h
  cases r with
  | cons r rr =>
    cases rr
    rename_i u
    obtain ⟨as, rd⟩ := Dp.reads I d v u hd r
    obtain ⟨a, rfl⟩ := isRef_of_reads rd h3
    refine repr_of_reads' rd h1 (PyData.noDict_hsm h2) gd (by omega) (fun _ _ e => e) (fun h' u tk hk => ?_) h5
    exact ⟨.str d.shown, H, I.kept hk, ⟨_, rfl⟩, q⟩
def reprD : List D → Option D
  | [d] => (toPy d).bind fun p => if p.showable = true ∧ p.hasDict = false ∧ isDisplay p = true ∧ p.depth ≤ 64 ∧ p.shown.length ≤ sizeLine then some (.str p.shown) else none
  | _ => none
end
end Fli
set_option Elab.async false
set_option linter.all false
set_option maxRecDepth 100000
set_option maxHeartbeats 4000000
namespace Fli
open PySem PySem.Spec PyProof.Rows L2
variable [HW]

/-! the law's own call -/
theorem lawG {P : Program} {w : World} {K : PySem.W.Frag} {mg mb : Str → Option Value} {k : Nat} {fa a : Addr}
    {fd : FuncData} {x : Str} {sp : Sp} {s : Shared} {vs : List Value} {ns : List Int} (inK : K.In s.heap)
    (gl : s.heap.Ns mainGlobals mg) (bl : s.heap.Ns builtinsNs mb) (blt : ∀ y : Str, y ≠ "__name__" → mb y = bootBuiltins y)
    (lim : s.heap.NoLimit) (gens : s.gens = #[]) (ha : s.heap.get? a = some { cls := .type "list", data := .seq vs.toArray })
    (hi : IntsAre vs ns) (hl : ns.length ≤ sizeLine) (hr : Room k callerA)
    (F : ∀ base : Heap, K.In base → base.Ns mainGlobals mg → FnG P w K mg base k fa fd [x] sp)
    (hb : ∀ (t : Shared) (u : Value), BindsTo t fd ⟨[u], []⟩ [(x, u)])
    (hsp : ∀ H : Hp, SqL K H a (ns.map V.int) → sp [.ref a] H (fun v _ => v = .bl true) fun _ _ _ => False) :
    codeAny (model P w) callerA (.call (.ref fa) ⟨[.ref a], []⟩)
      (fun r s' => r = .ok (.ret (.bool true)) ∧ OldK s.heap s'.heap ∧ s'.os = s.os ∧ AllBare s'.gens) s := by
  have rel := vals_ints hi
  have go : ∀ H : Hp, (∀ b o, H b = some o → b = a ∧ ∃ ob ys, o = .frz ob (.lst ys)) → SqL K H a (ns.map V.int) → HOk P w H s.heap →
      (H a ≠ none → K.lookup a = none) → codeAny (model P w) callerA (.call (.ref fa) ⟨[.ref a], []⟩)
        (fun r s' => r = .ok (.ret (.bool true)) ∧ OldK s.heap s'.heap ∧ s'.os = s.os ∧ AllBare s'.gens) s := by
    intro H only sq ok noK
    have keep : ∀ {b : Addr} {o : Obj}, s.heap.get? b = some o → (b = a → H a = none) → (hidT s.heap H).get? b = some o := by
      intro b o e n
      refine hidT_get e ?_
      cases q : H b with
      | none => rfl
      | some u => obtain ⟨rfl, _⟩ := only b u q; rw [n rfl] at q; cases q
    have keepNs : ∀ {b : Addr} {m : Str → Option Value}, s.heap.Ns b m → (hidT s.heap H).Ns b m := by
      rintro b m ⟨o, es, ep, e, d, r⟩
      refine ⟨o, es, ep, keep e ?_, d, r⟩
      rintro rfl
      rw [ha] at e
      cases e
      cases d
    have inB : K.In (hidT s.heap H) := by
      intro b o e
      refine keep (inK b o e) ?_
      rintro rfl
      cases q : H b with
      | none => rfl
      | some u => rw [noK (by rw [q]; simp)] at e; cases e
    obtain ⟨mc, l1, l2⟩ := lim
    have env : Env0 P w K mg (hidT s.heap H) callerA [] s H := by
      refine ⟨rfl, ⟨inB, keepNs gl, ⟨mb, keepNs bl, blt⟩, ⟨mc, keepNs l1, l2⟩⟩, fun b o e => of_hidT e, Nat.le_of_eq (hidT_size _ _), trivial, ?_, ok, .of_eq gens⟩
      intro b z
      cases z
    have run := (F _ inB (keepNs gl)).run (A := callerA) rfl hr env (hb s (.ref a)) (show Vals [.ref a] [.ref a] from .cons rfl .nil) (hsp H sq)
    refine codeAny_mono run ?_
    intro r s' h
    cases r with
    | error e => exact False.elim h
    | ok fl => cases fl with
      | next => exact h.elim
      | brk => exact h.elim
      | cont => exact h.elim
      | ret u =>
        obtain ⟨v, H', os, bare, un, ok', rv, q⟩ := h
        have q : v = .bl true := q
        subst q
        have rv : u = Value.bool true := rv
        subst rv
        refine ⟨rfl, OldK.of_keep ?_, os, bare⟩
        intro b o e
        cases q : H b with
        | none => exact un.keep b o e q (fun z => nomatch z) fun z => nomatch z
        | some z =>
          obtain ⟨_, ob, ys, rfl⟩ := only b z q
          have f1 := (ok b _ q).1
          have f2 := (ok' b _ (un.frzs b ob _ q)).1
          rw [e] at f1
          cases f1
          exact f2
  cases hk : K.lookup a with
  | some o =>
    have e := inK a o hk
    rw [ha] at e
    cases e
    refine go (fun _ => none) (fun b o z => nomatch z) (.inr ⟨_, vs.toArray, _, hk, rfl, rfl, rfl, ?_, by simpa using rel⟩) (fun b u z => nomatch z) fun z => (z rfl).elim
    rw [List.size_toArray, hi.length]; exact hl
  | none =>
    let ob : Obj := { cls := .type "list", data := .seq vs.toArray }
    have at_a : (upd (fun _ => none) a (.frz ob (.lst (ns.map V.int)))) a = some (.frz ob (.lst (ns.map V.int))) := upd_same
    have off : ∀ b o, (upd (fun _ => none) a (.frz ob (.lst (ns.map V.int)))) b = some o → b = a ∧ o = .frz ob (.lst (ns.map V.int)) := by
      intro b o e
      by_cases z : b = a
      · subst z; rw [at_a] at e; cases e; exact ⟨rfl, rfl⟩
      · rw [upd_ne z] at e; cases e
    refine go _ (fun b o e => ⟨(off b o e).1, ob, _, (off b o e).2⟩) (.inl (.inr ⟨ob, at_a⟩)) ?_ fun _ => hk
    intro b o e
    obtain ⟨rfl, rfl⟩ := off b o e
    exact ⟨ha, by rw [List.length_map]; exact hl, vs, _, rel, ha⟩

/-- the tables are left out -/
def unT (H : Hp) : Hp := fun b => match H b with
  | some (.tbl _) => none
  | y => y
theorem unT_at {H : Hp} {b : Addr} {o : HO} (h : H b = some o) (n : nt o = true) : unT H b = some o := by
  unfold unT
  rw [h]
  cases o <;> first | rfl | cases n
theorem unT_le {H : Hp} : Le (unT H) H := fun b o h => by
  unfold unT at h
  split at h
  · cases h
  · exact h
theorem unT_nt {H : Hp} (b : Addr) (ps : Array Value) : unT H b ≠ some (.tbl ps) := fun h => by
  unfold unT at h
  split at h
  · cases h
  · rename_i q
    exact q ps h
theorem unT_sl {K : PySem.W.Frag} {H : Hp} {a : Addr} {xs : List V} (h : SqL K H a xs) : SqL K (unT H) a xs := by
  rcases h with (h | ⟨o, h⟩) | h
  · exact .inl (.inl (unT_at h rfl))
  · exact .inl (.inr ⟨o, unT_at h rfl⟩)
  · exact .inr h
omit [HW] in
theorem walkG {l : PySem.W.OpenLaw} {n k : Nat} {q : Program} {loose : List Str} {XP : (Str → Option Value) → Heap → Prop}
    {YP : World → Heap → Prop} {d : DefRec} {K : Params → PySem.W.Frag} {N : List Str} {x : Str} {body : MS}
    (hn : l.most = some n) (hn2 : n ≤ sizeLine) (hdf : d.params.defaults = []) (hr : Room k callerA)
    (hY : ∀ (w : World) (h : Heap), YP w h → (K w.params).In h)
    (F : ∀ (w : World) (i : HW), i.P = l.prog → i.w = w → i.T = [] → ∀ (mg : Str → Option Value) (fa : Addr) (h : Heap), (K w.params).In h → h.Ns mainGlobals mg → mg d.name = some (.ref fa) →
      ∃ fd : FuncData, (∀ (s : Shared) (u : Value), BindsTo s fd ⟨[u], []⟩ [(x, u)]) ∧
        ∀ base : Heap, (K w.params).In base → base.Ns mainGlobals mg → FnG l.prog w (K w.params) mg base k fa fd [x] (spM (K w.params) mg N [x] [] body))
    (hl : ∀ ns : List Int, ns.length ≤ n → ∃ s', callR N.length body [.d (.scr ns)] = some (.rd (.bl true) s')) :
    PySem.W.WalkO q loose XP YP l.row.toRowW d [] (fun f vs => PySem.call f vs) := by
  refine Att.attach_call hn hdf fun w s₀ s mg mb fa o pm cd doc a vs ns G Y ho hd hcd hmg hobj hints hlen hg => ?_
  letI : HW := ⟨l.prog, w, []⟩
  obtain ⟨fd, hb, hF⟩ := F w ⟨l.prog, w, []⟩ rfl rfl rfl mg fa _ (hY w _ Y) G.T.g hmg
  refine lawG (hY w _ Y) G.T.g G.T.b G.T.builtins G.T.nolimit hg hobj hints (Nat.le_trans hlen hn2) hr hF hb fun H sq => ?_
  obtain ⟨s', e⟩ := hl ns hlen
  have st : St (K w.params) mg (startS N.length [.d (.scr ns)]) (L2.start N [.ref a]) H (unT H) := by
    refine ⟨⟨unT_nt, (fun p hp => nomatch hp), fun p hp => nomatch hp⟩, unT_le, startS_len rfl rfl, fun i d h => ?_, fun i o h => ?_, fun i j o u b h => ?_⟩
    · have h := startS_get h
      cases i with
      | zero => cases h; exact ⟨_, start_get (N := N) (vs := [.ref a]) (i := 0) rfl, .scr (unT_sl sq)⟩
      | succ i => cases h
    · have h := startS_get h
      cases i with
      | zero => cases h
      | succ i => cases h
    · have h := startS_get h
      cases i with
      | zero => cases h
      | succ i => cases h
  refine ⟨rfl, _, unT H, _, st, e, ?_⟩
  intro v σ' H' W' _ _ _ r
  cases r
  rfl
end Fli
set_option Elab.async false
set_option linter.all false
set_option maxRecDepth 100000
set_option maxHeartbeats 4000000
namespace Fli
open PySem L2
variable [HW]

/-! objects of own classes -/
def fldD (c f : Str) : D → Option D
  | .ins c' fs => if c' = c then fs.lookup f else none
  | _ => none
def putD (f : Str) (x : D) : List (Str × D) → List (Str × D)
  | [] => [(f, x)]
  | (n, y) :: r => if n = f then (n, x) :: r else (n, y) :: putD f x r
section
variable {K : PySem.W.Frag} {mg : Str → Option Value} {W : Hp}
theorem DFs.look {f : Str} {d : D} : ∀ {gs : List (Str × V)} {fs : List (Str × D)}, DFs K mg W gs fs → fs.lookup f = some d → ∃ v, gs.lookup f = some v ∧ DR K mg W v d
  | _, _, .nil, h => by cases h
  | _, _, @DFs.cons _ _ _ _ n v gs e fs r s, h => by
    rw [List.lookup_cons] at h ⊢
    cases q : f == n with
    | true =>
      rw [q] at h
      cases h
      exact ⟨v, rfl, r⟩
    | false => rw [q] at h; exact DFs.look s h
theorem DFs.put {f : Str} {x : V} {d : D} (r : DR K mg W x d) : ∀ {gs : List (Str × V)} {fs : List (Str × D)}, DFs K mg W gs fs → DFs K mg W (putF f x gs) (putD f d fs)
  | _, _, .nil => .cons r .nil
  | _, _, @DFs.cons _ _ _ _ n v gs e fs r' s => by
    unfold putF putD
    by_cases q : n = f
    · rw [if_pos q, if_pos q]; exact .cons r s
    · rw [if_neg q, if_neg q]; exact .cons r' (DFs.put r s)
theorem DFs.len : ∀ {gs : List (Str × V)} {fs : List (Str × D)}, DFs K mg W gs fs → gs.length = fs.length
  | _, _, .nil => rfl
  | _, _, .cons _ s => by simp [DFs.len s]
end
section
variable {X : Cx} {e : Expr} {pos p2 : Pos} {c f x : Str} {C : Addr} {pr : List Nat}
theorem e_fld {m : M D} (h : DE X e m) (cl : Cls X.K C) (na : NoAttr X.K C f) (hm : X.mg c = some (.ref C)) (hb : attributeBase e f X.env (eval e X.env) = eval e X.env := by rfl) : DE X (.Attribute e f pos) (bindM m fun d => optM (fldD c f d)) := PE.imp (pe_fld h hb) fun σ H Q ⟨sd, W, d, sd', st, em, q⟩ => by
  obtain ⟨y, s1, e1, em⟩ := bindM_some em
  obtain ⟨e2, rfl⟩ := optM_some em
  refine ⟨sd, W, y, sd', st, e1, fun v H1 W1 st1 k1 r => ?_⟩
  unfold fldD at e2
  split at e2
  · split at e2
    · rename_i hc
      subst hc
      cases r with
      | ins m1 g1 r1 =>
        rw [hm] at m1
        cases m1
        obtain ⟨w, e3, r3⟩ := r1.look e2
        exact ⟨_, _, _, _, w, rfl, st1.le _ _ g1, cl, na, e3, q w H1 W1 st1 k1 r3⟩
    · cases e2
  · cases e2
/-- self.f = e, self under way in slot i -/
def setFM (i : Nat) (c f : Str) (m : M D) : MS := fun s => (m s).bind fun q => match slotO i q.2 with
  | some (.obj c' fs) => if c' = c ∧ fs.length < 1000 then some (.nx (q.2.set i (some (.own (.obj c (putD f q.1 fs)))))) else none
  | _ => none
end

/-- behind a call that was given a new object -/
theorem St.give {K : PySem.W.Frag} {mg : Str → Option Value} {sd s1 sc s2 : S} {σ σc σ2 : L2.St} {H W H1 W1 H2 W2 : Hp} {a : Addr} (st1 : St K mg s1 σ H1 W1) (k1 : Kp sd σ H W s1 σ H1 W1) (nn : ¬ Own s1 σ a) (hp : H a = none)
    (st2 : St K mg s2 σ2 H2 W2) (k2 : Kp sc σc H1 W1 s2 σ2 H2 W2) (no : ∀ b, Own sc σc b → b = a) : St K mg s1 σ H2 W2 ∧ Kp sd σ H W s1 σ H2 W2 := by
  have ne : ∀ b, b ≠ a → ¬ Own sc σc b := fun b z y => z (no b y)
  refine ⟨⟨st2.tabs, st2.le, st1.len, fun j d h => ?_, fun j u h => ?_, st1.inj⟩, ⟨k1.le.trans k2.le, fun x u h z t => ?_, fun x h h' z => ?_, k1.own, fun x h => k2.there x (k1.there x h)⟩⟩
  · obtain ⟨v, e, r⟩ := st1.dat j d h
    exact ⟨v, e, r.le k2.le⟩
  · obtain ⟨x, e, w1, r1⟩ := st1.own j u h
    have nx : x ≠ a := fun z => nn ⟨j, u, h, z ▸ e⟩
    cases u with
    | lst ds =>
      obtain ⟨vs, q1, q2⟩ := r1
      exact ⟨x, e, k2.new x w1 (by rw [q1]; simp) (ne x nx), vs, k2.keep _ _ q1 (ne x nx) rfl, q2.le k2.le⟩
    | obj c fs =>
      obtain ⟨C, dx, gs, q0, q1, q2⟩ := r1
      exact ⟨x, e, k2.new x w1 (by rw [q1]; simp) (ne x nx), C, dx, gs, q0, k2.keep _ _ q1 (ne x nx) rfl, q2.le k2.le⟩
    | dic kvs =>
      obtain ⟨gs, q1, q2⟩ := r1
      exact ⟨x, e, k2.new x w1 (by rw [q1]; simp) (ne x nx), gs, k2.keep _ _ q1 (ne x nx) rfl, q2.le k2.le⟩
    | dit kvs =>
      obtain ⟨gs, q1, q2⟩ := r1
      exact ⟨x, e, k2.new x w1 (by rw [q1]; simp) (ne x nx), gs, k2.keep _ _ q1 (ne x nx) rfl, q2.le k2.le⟩
  · have nx : x ≠ a := ne_of_none h hp
    exact k2.keep x u (k1.keep x u h z t) (ne x nx) t
  · have nx : x ≠ a := fun y => h' (y ▸ hp)
    exact k2.new x (k1.new x h h' z) (k1.there x h') (ne x nx)

def mkR (n : Nat) (body : MS) (c : Str) (as : List D) : Option O := (callR n body (.own (.obj c []) :: as.map .d)).bind fun o => match o with
  | .nx s2 => (firstO s2).bind fun o' => match o' with
    | .obj c' fs => if c' = c then some (.obj c fs) else none
    | _ => none
  | _ => none
def mkO (n : Nat) (body : MS) (c : Str) (ms : M (List D)) (g : List D → List D) : M O := bindM ms fun xs => optM (mkR n body c (g xs))
section
variable {K : PySem.W.Frag} {mg : Str → Option Value} {N ps : List Str} {n : Nat} {body : MS} {c : Str} {C : Addr} {E : XK}
theorem mk_core (hn : N.length = n) (hm : mg c = some (.ref C)) {sd s1 : S} {σ : L2.St} {H W H2 W2 : Hp} {vs : List V} {xs : List D} {o : O} {Q : VK} (st : St K mg s1 σ H2 W2) (k : Kp sd σ H W s1 σ H2 W2) (r : DRs K mg W2 vs xs) (hl : vs.length + 1 = ps.length) (em : mkR n body c xs = some o)
    (q : ∀ p H' W', St K mg s1 σ H' W' → Kp sd σ H W s1 σ H' W' → OR K mg H' W' p o → ¬ Own s1 σ p → H p = none → Q (.ref p) H') :
    ∀ x dx, H2 x = none → H2 dx = none → dx ≠ x → spM K mg N ps [0] body (.ref x :: vs) (upd (upd H2 dx (.own x)) x (.ins C dx [])) (fun v H' => v = .non ∧ Q (.ref x) H') E := by
  intro x dx hx hdx ne
  simp only [mkR, Option.bind_eq_some_iff] at em
  obtain ⟨out, e1, em⟩ := em
  obtain ⟨g1, g2⟩ := st.newO hdx (.own x)
  have hx' : (upd H2 dx (.own x)) x = none := by rw [upd_ne (Ne.symm ne)]; exact hx
  obtain ⟨g3, g4⟩ := g1.newO hx' (.ins C dx [])
  have ro : OR K mg (upd (upd H2 dx (.own x)) x (.ins C dx [])) W2 x (.obj c []) := ⟨st.free hx, C, dx, [], hm, upd_same, .nil⟩
  obtain ⟨sl, no⟩ := g3.lend (N := N) hn r ro
  refine ⟨hl, _, W2, out, sl, e1, ?_⟩
  cases out with
  | nx s2 =>
    simp only [Option.bind_eq_some_iff] at em
    obtain ⟨o', e2, em⟩ := em
    intro σ2 H3 W3 st3 k3 p3
    have re := own_end (sc := s2) (σ := σ) (H := H) st3 p3 e2
    split at em
    · split at em
      · rename_i hc
        subst hc
        cases em
        have kk := (k.trans g2).trans g4
        obtain ⟨f1, f2⟩ := St.give (a := x) g3 kk (fun z => st.notOwn hx z) (k.fresh hx) st3 k3 no
        exact ⟨rfl, q x H3 W3 f1 f2 re (fun z => st.notOwn hx z) (k.fresh hx)⟩
      · cases em
    · cases em
  | _ => cases em
end
section
variable {X : Cx} {k n : Nat} {f C : Addr} {fd : FuncData} {N ps ks : List Str} {body : MS} {dvs : List V} {dd : List D} {ds : List Value} {x : Str} {p pos : Pos} {e : Expr} {es : List Expr} {ms : M (List D)}
/-- an argument list by keywords -/
abbrev LK (X : Cx) (kws : List Keyword) (m : M (List D)) : Prop := PK X kws (tL X.K X.mg m)
theorem lk_nil : LK X [] (retM []) := ⟨fun pos pins s σ H Q I ⟨sd, W, d, sd', st, em, q⟩ => by
  cases em
  exact (pk_nil (X := X)).run pos pins s σ H Q I (q _ H W st Kp.refl .nil)⟩
theorem lk_cons {nm : Option Str} {kpos : Pos} {kws : List Keyword} {m : M D} (h : DE X e m) (hs : LK X kws ms) : LK X (⟨nm, e, kpos⟩ :: kws) (bindM m fun d => bindM ms fun ds => retM (d :: ds)) := ⟨fun pos pins s σ H Q I ⟨sd, W, d, sd', st, em, q⟩ => by
  obtain ⟨x, s1, e1, em⟩ := bindM_some em
  obtain ⟨xs, s2, e2, em⟩ := bindM_some em
  cases em
  exact (pk_cons h hs).run pos pins s σ H Q I ⟨sd, W, x, s1, st, e1, fun v H1 W1 st1 k1 r1 => ⟨s1, W1, xs, sd', st1, e2, fun vs H2 W2 st2 k2 r2 => q _ H2 W2 st2 (k1.trans k2) (.cons (r1.le k2.le) r2)⟩⟩⟩
end
end Fli
set_option Elab.async false
set_option linter.all false
set_option maxRecDepth 100000
set_option maxHeartbeats 4000000
namespace Fli
open PySem PySem.Spec PyProof.Rows L2
variable [HW]
open AutoSeq1 (wpAny_loadPart')

/-! enumerate over a tuple -/
section
variable {prog : Program} {w : World} {A : Around} {E : Value → Shared → Prop} {s : Shared}
abbrev tupIt (t : Addr) : Obj := { cls := .type "tuple_iterator", data := .fields #[.ref t, .int 0 0] }
abbrev enumObj (i : Addr) : Obj := { cls := .type "enumerate", data := .fields #[.none, .bool false, .ref i, rawInt 0, .none, .none] }
theorem enum_newT (t : Addr) (items : Array Value) (n : Nat) (dct : Option Addr) (sl : Array (Option Value)) :
    Meets (Builtin.«enumerate.__new__» ⟨[.type "enumerate", .ref t], []⟩) (fun _ R s =>
      s.heap.get? t = some { cls := .type "tuple", dict := dct, data := .seq items n, slots := sl } ∧
      R (.ok (.ret (.ref (s.heap.push (tupIt t)).objs.size))) { s with heap := (s.heap.push (tupIt t)).push (enumObj s.heap.objs.size) }) := by
  refine .of_wp fun prog w A R s h => ?_
  obtain ⟨hp, g, d, tk, os⟩ := s
  obtain ⟨ht, h⟩ := h
  have hsub := sub_enumerate
  have hT : Heap.IsTuple (Shared.heap ⟨hp, g, d, tk, os⟩) t items := ⟨_, ht, rfl, n, rfl⟩
  wp_walk using wpAny_loadPart' ht
  refine wpAny_stack_any fun st => wpAny_pure ?_
  split
  · rename_i c _ _ _ _ _
    cases (c == Value.type "enumerate")
    all_goals
      wp_walk using wpAny_loadPart' ht, wpAny_pyIter_tuple hT
      exact ⟨_, rfl, h⟩
  · wp_walk using wpAny_loadPart' ht, wpAny_pyIter_tuple hT
    exact ⟨_, rfl, h⟩
theorem call_enumT {t : Addr} {items : Array Value} {Q : Value → Shared → Prop} (ht : s.heap.IsTuple t items)
    (h : ∀ h', IsEnum h' (s.heap.objs.size + 1) s.heap.objs.size 0 .none → h'.IsTupleIter s.heap.objs.size t 0 →
      (∀ b o, s.heap.get? b = some o → h'.get? b = some o) → Q (.ref (s.heap.objs.size + 1)) { s with heap := h' }) :
    wpAny (model prog w) A (call (.type "enumerate") [.ref t]) Q E s := by
  obtain ⟨⟨c, dct, dt, sl⟩, hl, hc, n, hd⟩ := ht
  have hc : c = .type "tuple" := hc
  have hd : dt = .seq items n := hd
  subst hc
  subst hd
  refine callType_new F.called_enumerate (by decide) (F.typeCall_enumerate_1 _) (F.newCall_enumerate_1 _)
    (fun obj => F.args_object_init_2 obj _) F.entry_enumerate_new (enum_newT t items n dct sl) ⟨hl, ?_⟩
  have hz : (s.heap.push (tupIt t)).objs.size = s.heap.objs.size + 1 := Heap.size_push ..
  show _ ∧ _
  rw [hz]
  have he : IsEnum ((s.heap.push (tupIt t)).push (enumObj s.heap.objs.size)) (s.heap.objs.size + 1) s.heap.objs.size 0 .none := by
    have z := Heap.get?_push_size (s.heap.push (tupIt t)) (o := enumObj s.heap.objs.size) rfl
    rw [hz] at z
    exact z
  exact ⟨⟨_, he, rfl⟩, h _ he ⟨_, Heap.get?_push_of_some _ (Heap.get?_push_size _ rfl), rfl, rfl⟩
    fun b o x => Heap.get?_push_of_some _ (Heap.get?_push_of_some _ x)⟩
end

def IteT (K : PySem.W.Frag) (a : Addr) : It where
  go := fun i H => ∃ (xs : List V) (x : V), SqT K H a xs ∧ xs[i]? = some x
  yld := fun i H v H' => ∃ (T : Addr) (x : V), v = .ref T ∧ H T = none ∧ H' = upd H T (.tup [.int (i : Nat), x]) ∧ ∀ xs, SqT K H a xs → xs[i]? = some x
  stop := fun i H => ∃ xs : List V, SqT K H a xs ∧ xs.length ≤ i
theorem turn_enumT {P : Program} {w : World} {K : PySem.W.Frag} {elts : List Expr} {kk : Nat} {tpos : Pos} (a e it : Addr) :
    L2.Turn P w K (.Tuple elts kk tpos) (IteT K a) [e, it] e
      (fun i h => (∃ old, IsEnum h e it ((i : Nat) : Int) old) ∧ h.IsTupleIter it a i ∧ e ≠ it) := by
  refine { mem := by simp, obj := ?_, keep := ?_, item := ?_, done := ?_, self := ?_ }
  · rintro i h ⟨⟨old, he⟩, ⟨o, ho, hc, hd⟩, _⟩ b hb
    rcases (show b = e ∨ b = it by simpa using hb) with rfl | rfl
    · exact ⟨_, he, fun v q => nomatch q⟩
    · exact ⟨o, ho, fun v q => by rw [hd] at q; cases q⟩
  · rintro i h h' ⟨⟨old, he⟩, hi, hne⟩ k
    exact ⟨⟨old, k e (by simp) _ he⟩, hi.at fun o q => k it (by simp) o q, hne⟩
  · intro X hP hw hK hc i pins s σ H E I hf st hg
    subst hP
    subst hw
    subst hK
    obtain ⟨⟨old, he⟩, hit, hne⟩ := st
    obtain ⟨xs, x, hq, hx⟩ := hg
    obtain ⟨its, rv, p, hz⟩ := I.tuple hq
    obtain ⟨u, hu, ru⟩ := rv.get hx
    obtain ⟨oa, hoa, hca, _⟩ := id p
    obtain ⟨oi, hoi, hci, _⟩ := id hit
    have nea : e ≠ a := by
      rintro rfl
      rw [he] at hoa
      cases hoa
      injection hca with z
      exact absurd z (by decide)
    have nia : a ≠ it := by
      rintro rfl
      rw [hoi] at hoa
      cases hoa
      rw [hci] at hca
      injection hca with z
      exact absurd z (by decide)
    have lte : e < s.heap.objs.size := Heap.lt_size he
    have lti : it < s.heap.objs.size := Heap.lt_size hoi
    have hui : its.toArray[i]? = some u := by simpa using hu
    have hlt : i < its.toArray.size := (Array.getElem?_eq_some_iff.mp hui).1
    refine wpAny_pyNext_enum_itemD (Draws.tuple (A := X.A.in1) (I.ok.hd hc) it a nia its.toArray) he ⟨hit, p⟩ hlt hne (by simp [hne, nea]) ?_
    intro y h' tk hy ho st' hT hsz hk
    have hy : its.toArray[i]? = some y := hy
    rw [hui] at hy
    cases hy
    refine ⟨_, rfl, wpAny_letOwnedTupleGo_enum (s := { s with heap := h', toks := tk + 1 }) ho ?_⟩
    intro h2 he2 sb
    have hT2 : h2.get? s.heap.objs.size = some { cls := .type "tuple", data := .seq #[.int i tk, u] } := (sb.2 _ (Nat.ne_of_gt lte)).trans hT
    have new : ObjOk X.prog X.w (upd H s.heap.objs.size (.tup [.int (i : Nat), x])) h2 s.heap.objs.size (.tup [.int (i : Nat), x]) :=
      ⟨show 2 ≤ sizeLine by decide, [.int i tk, u], .cons ⟨_, rfl⟩ (.cons ru .nil), ⟨_, hT2, rfl, _, rfl⟩⟩
    have I1 : Inv X pins σ (upd H s.heap.objs.size (.tup [.int (i : Nat), x])) { s with heap := h2, toks := tk + 1 } := by
      refine I.turnedNew (ch := [e, it]) ?_ hf (Nat.le_refl _) new
      intro b ob hb q
      have b1 : b ≠ e := fun z => hb (by simp [z])
      have b2 : b ≠ it := fun z => hb (by simp [z])
      exact (sb.2 b b1).trans (hk b ob b1 b2 q)
    refine ⟨.ref s.heap.objs.size, _, I1, rfl, ⟨_, x, rfl, I.hok.fresh (Nat.le_refl _), rfl, ?_⟩, ⟨⟨u, ?_⟩, st'.1.at fun o q => (sb.2 it (Ne.symm hne)).trans q, hne⟩, ?_⟩
    · intro ys hy
      rw [I.tuple_inj hy hq]
      exact hx
    · rw [show ((i + 1 : Nat) : Int) = (i : Int) + 1 by omega]
      exact he2
    · intro b hb
      have lb : b < s.heap.objs.size := by
        rcases (show b = e ∨ b = it by simpa using hb) with rfl | rfl
        · exact lte
        · exact lti
      rw [upd_ne (Nat.ne_of_lt lb)]
      exact (hf b hb).1
  · intro X hP hw hK hc i pins s σ H E I hf st hg
    subst hP
    subst hw
    subst hK
    obtain ⟨⟨old, he⟩, hit, hne⟩ := st
    obtain ⟨xs, hq, hx⟩ := hg
    obtain ⟨its, rv, p, hz⟩ := I.tuple hq
    obtain ⟨oa, hoa, hca, _⟩ := id p
    obtain ⟨oi, hoi, hci, _⟩ := id hit
    have nia : a ≠ it := by
      rintro rfl
      rw [hoi] at hoa
      cases hoa
      rw [hci] at hca
      injection hca with z
      exact absurd z (by decide)
    obtain ⟨f0, f1, f2, f3, f4, f5⟩ := hf it (by simp)
    have hl := rv.length
    have D : Draws X.prog X.w X.A.in1 it [it, a] i (fun _ _ => True) (fun j h => j = i ∧ h.IsTupleIter it a i ∧ h.IsTuple a its.toArray) := by
      refine ⟨?_, ?_, ?_, ?_⟩
      · rintro j h ⟨_, ⟨o, ho, _⟩, _⟩
        exact ⟨o, ho⟩
      · rintro j h h' ⟨z, s1, s2⟩ k
        exact ⟨z, s1.at fun o e => k it (by simp) o e, s2.at fun o e => k a (by simp) o e⟩
      · rintro j s Q E hj ⟨z, _⟩
        omega
      · rintro s Q E ⟨_, s1, s2⟩ hE
        exact wpAny_nextOf_tuple_end (I.ok.hd hc) s1 s2 (by simp; omega) hE
    refine wpAny_pyNext_enum_endD D he ⟨rfl, hit, p⟩ ?_
    intro h' eb
    exact ⟨rfl, I.turned (t' := s.toks) (fun b o hb q => eb b o hb q) f0 f1 f3 f4 f5⟩
  · intro A i s Q E st q
    obtain ⟨⟨old, he⟩, _⟩ := st
    exact wpAny_pyIter_enum he q
def iEnumT (K : PySem.W.Frag) (ta : TA) : TI := fun σ H R => ta σ H fun vs H1 => ∃ a xs, vs = [.ref a] ∧ SqT K H1 a xs ∧ R (IteT K a) H1
theorem pi_enumT {X : Cx} {e : Expr} {ta : TA} {p pos tpos : Pos} {elts : List Expr} {kk : Nat} (hg : Gl X "enumerate") (hm : X.mg "enumerate" = none) (ha : PA X [e] ta)
    (hs : starEach [e] X.env = [(false, eval e X.env)] := by rfl) : PI X (.Tuple elts kk tpos) (.Call (.Name "enumerate" p) [e] [] pos) (iEnumT X.K ta) := by
  constructor
  intro pins s σ H R I h
  refine Call_ (ld_blt I hg hm boot_enumerate (PyProof.Rows.callWith_type1 (thn (ha.run pos pins s σ H _ I h) ?_) hs rfl))
  rintro us s1 ⟨vs, H1, I1, r1, a, xs, rfl, hq, q⟩
  obtain ⟨u, rfl, ru⟩ := vals1 r1
  cases ru
  obtain ⟨its, rv, p', hz⟩ := I1.tuple hq
  refine call_enumT p' fun h' he hit hk => wpAny_pyIter_enum he ?_
  refine ⟨s1.heap.objs.size + 1, [s1.heap.objs.size + 1, s1.heap.objs.size], _, _, H1, rfl, I1.kept (t' := s1.toks) hk,
    turn_enumT a (s1.heap.objs.size + 1) s1.heap.objs.size, ⟨⟨.none, he⟩, hit, Nat.succ_ne_self _⟩, ?_, q⟩
  intro b hb
  have hle : s1.heap.objs.size ≤ b := by
    rcases (show b = s1.heap.objs.size + 1 ∨ b = s1.heap.objs.size by simpa using hb) with rfl | rfl
    · exact Nat.le_succ _
    · exact Nat.le_refl _
  exact I1.fpOk hle (I1.hok.fresh hle)
end Fli
set_option Elab.async false
set_option linter.all false
set_option maxRecDepth 100000
set_option maxHeartbeats 4000000
namespace Fli
open PySem PySem.Spec PyProof.Rows L2
variable [HW]

/-! for i, x in enumerate(t) -/
def enumD (ds : List D) : List D := ds.mapIdx fun i d => .tup [.int (i : Int), d]
theorem enumD_get {ds : List D} {i : Nat} {d : D} (h : ds[i]? = some d) : (enumD ds)[i]? = some (.tup [.int (i : Int), d]) := by
  unfold enumD
  rw [List.getElem?_mapIdx, h]; rfl
section
variable {K : PySem.W.Frag} {mg : Str → Option Value} {pr : List Nat} {D : Ends} {sd : S} {σ : L2.St} {H W : Hp} {out : Out} {gs : TGs} {fs : List Fli.D → S → Option S} {m : MS}
theorem Turn.oneE {items : List Fli.D} {i : Nat} {d : Fli.D} {x : V} {σ' : L2.St} {H' : Hp} {T : Addr} (hg : TGs' K mg pr gs fs) (q : Post K mg pr D sd σ H W out) (hd : items[i]? = some (.tup [.int (i : Int), d])) (t : Turn K mg pr sd σ H W (tupF 2 fs) m items out i σ' H')
    (hx : ∀ W', Le W W' → DR K mg W' x d) (hT : H' T = none) : gTup K 2 gs (.ref T) σ' (upd H' T (.tup [.int (i : Int), x])) fun σ2 H2 => tM K mg pr m { nx := Turn K mg pr sd σ H W (tupF 2 fs) m items out (i + 1), rt := D.rt, bk := D.nx, ct := Turn K mg pr sd σ H W (tupF 2 fs) m items out (i + 1) } σ2 H2 := by
  obtain ⟨sd', W', st, k, p, em⟩ := t
  have hl : i < items.length := (List.getElem?_eq_some_iff.mp hd).1
  have hd' : items[i] = .tup [.int (i : Int), d] := (List.getElem?_eq_some_iff.mp hd).2
  rw [List.drop_eq_getElem_cons hl, hd'] at em
  simp only [loopM, Option.bind_eq_some_iff] at em
  obtain ⟨s1, e1, o, e2, em⟩ := em
  obtain ⟨g1, g2⟩ := st.newO hT (.tup [.int (i : Int), x])
  have e1 : fs [.int (i : Int), d] sd' = some s1 := e1
  refine ⟨T, _, rfl, .inl (.inl upd_same), rfl, hg _ _ sd' s1 σ' _ W' g1 (.cons (.int _) (.cons (hx W' k.le) .nil)) e1 _ fun σ1 H1 W1 st1 k1 p1 => ⟨s1, W1, o, st1, e2, ?_⟩⟩
  have k' := (k.trans g2).trans k1
  have p' := p.trans p1
  cases o with
  | nx s2 => exact fun σ2 H2 W2 st2 k2 p2 => ⟨s2, W2, st2, k'.trans k2, p'.trans p2, em⟩
  | ct s2 => exact fun σ2 H2 W2 st2 k2 p2 => ⟨s2, W2, st2, k'.trans k2, p'.trans p2, em⟩
  | bk s2 =>
    cases em
    exact fun σ2 H2 W2 st2 k2 p2 => q σ2 H2 W2 st2 (k'.trans k2) (p'.trans p2)
  | rd d s2 =>
    cases em
    exact fun v σ2 H2 W2 st2 k2 p2 r => q v σ2 H2 W2 st2 (k'.trans k2) (p'.trans p2) r
  | ro o s2 =>
    cases em
    exact fun v σ2 H2 W2 st2 k2 p2 r n e => q v σ2 H2 W2 st2 (k'.trans k2) (p'.trans p2) r n (Fr.back k' p' e)
end
def tupLs : D → Option (List D)
  | .tup ds => some ds
  | _ => none
def forE (mi : M D) (fs : List D → S → Option S) (m : MS) : MS := fun s => (mi s).bind fun q => (tupLs q.1).bind fun ds => loopM (tupF 2 fs) m (enumD ds) q.2
section
variable {X : Cx} {pr : List Nat} {e tg : Expr} {sts : List Stmt} {pos p tpos : Pos} {elts : List Expr} {kk : Nat} {gs : TGs} {fs : List D → S → Option S} {m : MS} {mi : M D}
theorem s_forE {p3 : Pos} (hi : DE X e mi) (hr : Gl X "enumerate") (hm : X.mg "enumerate" = none) (hg : PG X (.Tuple elts kk tpos) (gTup X.K 2 gs)) (hf : TGs' X.K X.mg pr gs fs) (hb : SEs X pr sts m) (hc : X.calm = true) (hp : PassesOwn (model X.prog X.w) X.A X.env X.xe)
    (hs : starEach [e] X.env = [(false, eval e X.env)] := by rfl) (he : starEach (e :: []) X.env = (false, eval e X.env) :: starEach [] X.env := by rfl) : SE X pr (.For (.Tuple elts kk tpos) (.Call (.Name "enumerate" p) [e] [] p3) sts [] pos) (forE mi fs m) := PS.imp (ps_for hp hc (pi_enumT hr hm (pa_cons hi pa_nil he) hs) hg hb) fun D σ H ⟨sd, W, out, st, em, q⟩ => by
  simp only [forE, Option.bind_eq_some_iff] at em
  obtain ⟨⟨d, s1⟩, e1, ds, e2, em⟩ := em
  refine ⟨sd, W, d, s1, st, e1, fun v H1 W1 st1 k1 r1 => ?_⟩
  cases d with
  | tup es =>
    cases e2
    cases r1 with
    | @tup a vs _ sa ra =>
      have qq := q.behind k1 Pr.refl
      refine ⟨a, vs, rfl, st_le st1.le sa, fun i m' σ' H' => Turn X.K X.mg pr s1 σ H1 W1 (tupF 2 fs) m (enumD ds) out i σ' H' ∧ m' + i = vs.length, ⟨vs.length, ⟨s1, W1, st1, Kp.refl, Pr.refl, em⟩, rfl⟩, ?_⟩
      rintro i m' σ' H' ⟨t, hm'⟩
      have sq : SqT X.K H' a vs := by
        obtain ⟨sd', W', st', k', _, _⟩ := t
        exact st_le (k'.le.trans st'.le) sa
      have lenE : (enumD ds).length = vs.length := by unfold enumD; rw [List.length_mapIdx]; exact ra.len.symm
      by_cases hi : i < vs.length
      · refine .inr ⟨⟨vs, vs[i], sq, by simp [hi]⟩, fun σ2 H2 => Turn X.K X.mg pr s1 σ H1 W1 (tupF 2 fs) m (enumD ds) out (i + 1) σ2 H2, fun σ2 H2 n => ⟨m' - 1, by omega, n, by omega⟩, ?_⟩
        rintro x H2 ⟨T, y, rfl, hT, rfl, hy⟩
        obtain ⟨d, hd, rd⟩ := ra.get' (hy vs sq)
        exact Turn.oneE hf qq (enumD_get hd) t (fun W' le => rd.le le) hT
      · exact .inl ⟨⟨vs, sq, by omega⟩, Turn.done (by omega) qq t⟩
  | _ => cases e2
end

/-! isinstance -/
def tyD : D → Option String
  | .non => some "NoneType"
  | .bl _ => some "bool"
  | .int _ => some "int"
  | .str _ => some "str"
  | .tup _ => some "tuple"
  | .lst _ => some "list"
  | .scr _ => some "list"
  | .ins _ _ => none
  | .cls _ => none
  | .dic _ => none
  | .dit _ => none
  | .ptr _ => none
  | .exc _ _ _ => none
def tyE : D → Option String
  | .dic _ => some "dict"
  | d => tyD d
def isB (T : String) (d : D) : Option D := (tyE d).bind fun t => (kitB t T).map .bl
def isC (c : Str) (d : D) : Option D := match d with
  | .ins c' _ => if c' = c then some (.bl true) else none
  | d => (tyD d).map fun _ => .bl false
theorem ty_of {K : PySem.W.Frag} {mg : Str → Option Value} {H W : Hp} {v : V} {d : D} {t : String} (le : Le W H) (r : DR K mg W v d) (h : tyD d = some t) : TyX K H v (.type t) := by
  cases r with
  | non => cases h; exact .base .non
  | bl b => cases h; exact .base (.bl b)
  | int i => cases h; exact .base (.int i)
  | str x => cases h; exact .base (.str x)
  | tup s r =>
    cases h
    rcases s with ⟨ob, s, _⟩ | ⟨o, its, n, h1, h2, _⟩
    · exact .fTuple (le _ _ s)
    · exact .kTuple h1 h2
  | lst s r => cases h; exact .base (.lst (le _ _ s))
  | scr s =>
    cases h
    rcases s with (s | ⟨o, s⟩) | ⟨o, its, n, h1, h2, _⟩
    · exact .base (.lst (le _ _ s))
    · exact .base (.frz (le _ _ s))
    · exact .kList h1 h2
  | ins _ _ _ => cases h
  | cls _ => cases h
  | dic _ _ => cases h
  | dit _ _ => cases h
  | ptr => cases h
  | exc _ _ => cases h
theorem tyE_of {K : PySem.W.Frag} {mg : Str → Option Value} {H W : Hp} {v : V} {d : D} {t : String} (le : Le W H) (r : DR K mg W v d) (h : tyE d = some t) : TyX K H v (.type t) := by
  unfold tyE at h
  split at h
  · cases h
    cases r with
    | dic s _ =>
      rcases s with s | ⟨o, s⟩
      · exact .base (.dK (le _ _ s))
      · exact .fDict (le _ _ s)
  · exact ty_of le r h
/-- what is to be known of an own class for isinstance -/
structure InsTy (K : PySem.W.Frag) (C : Addr) : Prop where
  cl : Cls K C
  a : PySem.W.findIn K (.ref C) "__class__" = some (some (.builtin "object.__class__"))
  b : PySem.W.specialIn K (.builtin "object.__class__") "__get__" = some (some (.builtin "getset_descriptor.__get__"))
  c : PySem.W.takesIn K (.builtin "object.__class__") = some true
  d : PySem.W.mroIn K C (.type "object") = some true
section
variable {X : Cx} {e : Expr} {p pos p2 : Pos} {x : Str} {C : Addr} {m : M D}
theorem e_isB {T : String} {tn : Str} (h : DE X e m) (hg : Gl X "isinstance") (hm : X.mg "isinstance" = none) (ht : PE X (.Name tn p2) (tC (.ty T)))
    (he : starEach [e, .Name tn p2] X.env = (false, eval e X.env) :: starEach [.Name tn p2] X.env := by rfl) (he2 : starEach [.Name tn p2] X.env = (false, eval (.Name tn p2) X.env) :: starEach [] X.env := by rfl) (hpl : (backTo pos (starEach [.Name tn p2] X.env)).any (·.1) = false := by rfl) :
    DE X (.Call (.Name "isinstance" p) [e, .Name tn p2] [] pos) (bindM m fun d => optM (isB T d)) := PE.imp (pe_callB call_isi hg hm (by decide +kernel) (pa_cons h (pa_cons ht pa_nil he2) he) (by decide) (by decide) he hpl) fun σ H Q ⟨sd, W, z, sd', st, em, q⟩ => by
  obtain ⟨d, s1, e1, em⟩ := bindM_some em
  obtain ⟨e2, rfl⟩ := optM_some em
  refine ⟨sd, W, d, sd', st, e1, fun v H1 W1 st1 k1 r => ?_⟩
  simp only [isB, Option.bind_eq_some_iff, Option.map_eq_some_iff] at e2
  obtain ⟨t, ht, b, hb, rfl⟩ := e2
  exact ⟨v, .ty T, .type t, .type T, b, rfl, .ty T, tyE_of st1.le r ht, kit_ty hb, q _ H1 W1 st1 k1 (.bl b)⟩
theorem e_isC (h : DE X e m) (hg : Gl X "isinstance") (hm : X.mg "isinstance" = none) (hgx : Gl X x) (hx : X.mg x = some (.ref C)) (it : InsTy X.K C) (hk : ∀ t : String, t ∈ ["NoneType", "bool", "int", "str", "tuple", "list"] → PySem.W.kitOne X.K (.type t) (.ref C) = some false) (hdb : (x == ("__debug__" : Str)) = false := by decide)
    (he : starEach [e, .Name x p2] X.env = (false, eval e X.env) :: starEach [.Name x p2] X.env := by rfl) (he2 : starEach [.Name x p2] X.env = (false, eval (.Name x p2) X.env) :: starEach [] X.env := by rfl) (hpl : (backTo pos (starEach [.Name x p2] X.env)).any (·.1) = false := by rfl) :
    DE X (.Call (.Name "isinstance" p) [e, .Name x p2] [] pos) (bindM m fun d => optM (isC x d)) := PE.imp (pe_callB call_isi hg hm (by decide +kernel) (pa_cons h (pa_cons (pe_glob (v := .ref C) hgx hx rfl hdb) pa_nil he2) he) (by decide) (by decide) he hpl) fun σ H Q ⟨sd, W, z, sd', st, em, q⟩ => by
  obtain ⟨d, s1, e1, em⟩ := bindM_some em
  obtain ⟨e2, rfl⟩ := optM_some em
  refine ⟨sd, W, d, sd', st, e1, fun v H1 W1 st1 k1 r => ?_⟩
  have go : ∀ t, tyD d = some t → t ∈ ["NoneType", "bool", "int", "str", "tuple", "list"] → z = .bl false → ∃ x_1 c t u b, [v, V.ref C] = [x_1, c] ∧ ClsV c u ∧ TyX X.K H1 x_1 t ∧ PySem.W.kitOne X.K t u = some b ∧ Q (.bl b) H1 := fun t ht hm hz =>
    ⟨v, .ref C, .type t, .ref C, false, rfl, .own C, ty_of st1.le r ht, hk t hm, by subst hz; exact q _ H1 W1 st1 k1 (.bl false)⟩
  cases d with
  | ins c fs =>
    simp only [isC] at e2
    split at e2
    · rename_i hc
      cases e2
      subst hc
      cases r with
      | ins m1 g1 r1 =>
        rw [hx] at m1
        cases m1
        exact ⟨_, .ref C, .ref C, .ref C, true, rfl, .own C, .base (.ins (st1.le _ _ g1) it.cl it.a it.b it.c it.d), by unfold PySem.W.kitOne; simp, q _ H1 W1 st1 k1 (.bl true)⟩
    · cases e2
  | non => cases e2; exact go _ rfl (by simp) rfl
  | bl _ => cases e2; exact go _ rfl (by simp) rfl
  | int _ => cases e2; exact go _ rfl (by simp) rfl
  | str _ => cases e2; exact go _ rfl (by simp) rfl
  | tup _ => cases e2; exact go _ rfl (by simp) rfl
  | lst _ => cases e2; exact go _ rfl (by simp) rfl
  | scr _ => cases e2; exact go _ rfl (by simp) rfl
  | cls _ => cases e2
  | dic _ => cases e2
  | dit _ => cases e2
  | ptr _ => cases e2
  | exc _ _ _ => cases e2
end
end Fli
set_option Elab.async false
set_option linter.all false
set_option maxRecDepth 100000
set_option maxHeartbeats 4000000
namespace Fli
open PySem PySem.Spec PyProof.Rows L2
variable [HW]

/-! texts in lists and tuples -/
def strsD : List D → Option (List Str)
  | [] => some []
  | .str x :: ds => (strsD ds).map (x :: ·)
  | _ => none
theorem strs_rs {K : PySem.W.Frag} {mg : Str → Option Value} {W : Hp} : ∀ {vs : List V} {ds : List D} {ys : List Str}, DRs K mg W vs ds → strsD ds = some ys → vs = ys.map V.str
  | _, _, _, .nil, h => by cases h; rfl
  | _, _, _, .cons r s, h => by
    cases r <;> simp only [strsD] at h <;> try cases h
    simp only [Option.map_eq_some_iff] at h
    obtain ⟨ys, h, rfl⟩ := h
    rw [strs_rs s h]; rfl
def tixD : D → D → Option D
  | .tup ds, .str z => (strsD ds).bind fun ys => (ys.findIdx? (· == z)).map fun (j : Nat) => D.int (j : Int)
  | _, _ => none
section
variable {X : Cx} {o e : Expr} {apos pos p p2 : Pos} {ma mb m : M D} {x : Str} {pr : List Nat}
/-- t.index(x), t a tuple of texts -/
theorem e_tix (ho : DE X o ma) (he : DE X e mb) (hbase : attributeBase o "index" X.env (eval o X.env) = eval o X.env := by rfl)
    (hfew : ((((backTo pos (starEach [e] X.env)).all fun x => !x.1) && (backToKw pos (keywordEach [] X.env)).all fun x => x.1.isSome) && decide (([e].length + ([] : List Keyword).length + if ([] : List Keyword).isEmpty = true then 0 else 1) < 30)) = true := by rfl)
    (hline : (apos.endLine == pos.line) = true := by rfl) (hs : starEach [e] X.env = (false, eval e X.env) :: starEach [] X.env := by rfl) :
    DE X (.Call (.Attribute o "index" apos) [e] [] pos) (mBin tixD ma mb) := ⟨fun pins s σ H Q I ⟨sd, W, d, sd', st, em, q⟩ => by
  obtain ⟨a, s1, e1, em⟩ := bindM_some em
  obtain ⟨b, s2, e2, em⟩ := bindM_some em
  obtain ⟨e3, rfl⟩ := optM_some em
  refine wpAny_Call_method_late hbase hfew hline rfl (thn (ho.run pins s σ H (fun v H1 => ∃ W1, St X.K X.mg s1 σ H1 W1 ∧ Kp sd σ H W s1 σ H1 W1 ∧ DR X.K X.mg W1 v a) I ⟨sd, W, a, s1, st, e1, fun v H1 W1 st1 k1 r1 => ⟨W1, st1, k1, r1⟩⟩) ?_)
  rintro v t1 ⟨x, H1, I1, r1, W1, st1, k1, ra⟩
  unfold tixD at e3
  split at e3
  · rename_i ds z _
    cases ra with
    | @tup a vs _ sa rs =>
      cases r1
      have dn : ∃ ob, t1.heap.get? a = some ob ∧ ob.cls = .type "tuple" ∧ ob.dict = none := by
        rcases sa with ⟨ob, h, f1, f2⟩ | ⟨o, its, n, h1, h2, h3, _⟩
        · exact ⟨ob, (I1.hok _ _ (st1.le _ _ h)).1, f1, f2⟩
        · exact ⟨o, I1.kIn _ _ h1, h2, h3⟩
      obtain ⟨ob, g1, g2, g3⟩ := dn
      refine ⟨"tuple", "tuple.index", PySem.F.plainAttrs_tuple, PySem.F.slot_tuple_index, PySem.F.type_tuple_index, ⟨ob, g1, g2⟩, fun b hb => by cases hb; exact ⟨ob, g1, g3⟩, ?_⟩
      have hA := (pa_cons he (pa_nil (X := X)) hs).run pos pins t1 σ H1 (fun us H2 => ∃ W2 u, us = [u] ∧ St X.K X.mg sd' σ H2 W2 ∧ Kp s1 σ H1 W1 sd' σ H2 W2 ∧ DR X.K X.mg W2 u (.str z)) I1
        ⟨s1, W1, _, sd', st1, e2, fun u H2 W2 st2 k2 r2 => ⟨W2, u, rfl, st2, k2, r2⟩⟩
      rw [hs] at hA ⊢
      refine Calls.callWith_builtin rfl (Calls.evalArgs_plain (thn hA ?_))
      rintro us t2 ⟨ws, H2, I2, r2, W2, u, rfl, st2, k2, ru⟩
      cases ru
      simp only [Option.bind_eq_some_iff, Option.map_eq_some_iff] at e3
      obtain ⟨ys, h, j, hj, rfl⟩ := e3
      have zz := strs_rs rs h
      subst zz
      rw [List.findIdx?_eq_some_iff_getElem] at hj
      obtain ⟨hl, h1, h2⟩ := hj
      refine mt_tup_index pins t2 σ H2 (.ref a) [.str z] _ us Q I2 rfl r2 ⟨a, ys, z, j, rfl, rfl, st_le (k2.le.trans st2.le) sa, ?_, fun m hm e => ?_, q _ H2 W2 st2 (k1.trans k2) (.int _)⟩
      · rw [List.getElem?_eq_getElem hl]
        exact congrArg some (by simpa using h1)
      · obtain ⟨hl', e⟩ := List.getElem?_eq_some_iff.mp e
        have := h2 m hm
        rw [e] at this
        simp at this
  · cases e3⟩
/-! two and three targets at once -/
def parM (i j : Nat) (ms : M (List D)) : MS := fun s => (ms s).bind fun q => match q.1 with
  | [a, b] => some (.nx ((q.2.set i (some (.d a))).set j (some (.d b))))
  | _ => none
def parM3 (i j k : Nat) (ms : M (List D)) : MS := fun s => (ms s).bind fun q => match q.1 with
  | [a, b, c] => some (.nx (((q.2.set i (some (.d a))).set j (some (.d b))).set k (some (.d c))))
  | _ => none
theorem s_par {i j : Nat} {x y : Str} {a b : Expr} {ms : M (List D)} {px py pt : Pos} {kt k2 pt2} (hi : X.N[i]? = some x) (hj : X.N[j]? = some y) (hij : i ≠ j) (hx : X.env.scope.names.lookup x = some .local) (hy : X.env.scope.names.lookup y = some .local) (ha : LA X [a, b] ms) (h1 : i ∉ pr) (h2 : j ∉ pr) (hc : X.calm = true) (hN : X.N.Nodup)
    (hw : swappedStores [.Tuple [.Name x px, .Name y py] kt pt] (.Tuple [a, b] k2 pt2) X.env = pure (some [x, y]) := by rfl)
    (hs : swapsWithSole [.Tuple [.Name x px, .Name y py] kt pt] (.Tuple [a, b] k2 pt2) pos.line X.env = pure false := by rfl) :
    SE X pr (.Assign [.Tuple [.Name x px, .Name y py] kt pt] (.Tuple [a, b] k2 pt2) pos) (parM i j ms) := PS.imp (ps_par hc hN hi hj hij hx hy ha hw hs) fun D σ H ⟨sd, W, out, st, em, q⟩ => by
  simp only [parM, Option.bind_eq_some_iff] at em
  obtain ⟨⟨xs, s1⟩, e1, em⟩ := em
  refine ⟨sd, W, xs, s1, st, e1, fun vs H1 W1 st1 k1 r1 => ?_⟩
  split at em
  · rename_i a b hxs
    cases em
    have hxs : xs = [a, b] := hxs
    subst hxs
    cases r1 with
    | cons ra r1 =>
      cases r1 with
      | cons rb r1 =>
        cases r1
        obtain ⟨g1, g2⟩ := st1.setD ra i
        obtain ⟨g3, g4⟩ := g1.setD rb j
        exact ⟨_, _, rfl, q _ H1 W1 g3 ((k1.trans g2).trans g4) ((pr_set h1).trans (pr_set h2))⟩
  · cases em
theorem s_par3 {i j l : Nat} {x y z : Str} {a b c : Expr} {ms : M (List D)} {px py pz pt : Pos} {kt k2 pt2} (hi : X.N[i]? = some x) (hj : X.N[j]? = some y) (hl : X.N[l]? = some z) (hij : i ≠ j) (hil : i ≠ l) (hjl : j ≠ l) (hx : X.env.scope.names.lookup x = some .local) (hy : X.env.scope.names.lookup y = some .local) (hz : X.env.scope.names.lookup z = some .local) (ha : LA X [a, b, c] ms) (h1 : i ∉ pr) (h2 : j ∉ pr) (h3 : l ∉ pr) (hc : X.calm = true) (hN : X.N.Nodup)
    (hw : swappedStores [.Tuple [.Name x px, .Name y py, .Name z pz] kt pt] (.Tuple [a, b, c] k2 pt2) X.env = pure (some [x, y, z]) := by rfl)
    (hs : swapsWithSole [.Tuple [.Name x px, .Name y py, .Name z pz] kt pt] (.Tuple [a, b, c] k2 pt2) pos.line X.env = pure false := by rfl) :
    SE X pr (.Assign [.Tuple [.Name x px, .Name y py, .Name z pz] kt pt] (.Tuple [a, b, c] k2 pt2) pos) (parM3 i j l ms) := PS.imp (ps_par3 hc hN hi hj hl hij hil hjl hx hy hz ha hw hs) fun D σ H ⟨sd, W, out, st, em, q⟩ => by
  simp only [parM3, Option.bind_eq_some_iff] at em
  obtain ⟨⟨xs, s1⟩, e1, em⟩ := em
  refine ⟨sd, W, xs, s1, st, e1, fun vs H1 W1 st1 k1 r1 => ?_⟩
  split at em
  · rename_i a b c hxs
    cases em
    have hxs : xs = [a, b, c] := hxs
    subst hxs
    cases r1 with
    | cons ra r1 =>
      cases r1 with
      | cons rb r1 =>
        cases r1 with
        | cons rc r1 =>
          cases r1
          obtain ⟨g1, g2⟩ := st1.setD ra i
          obtain ⟨g3, g4⟩ := g1.setD rb j
          obtain ⟨g5, g6⟩ := g3.setD rc l
          exact ⟨_, _, _, rfl, q _ H1 W1 g5 (((k1.trans g2).trans g4).trans g6) (((pr_set h1).trans (pr_set h2)).trans (pr_set h3))⟩
  · cases em
end
/-! an own object becomes data, or is handed back -/
def frzN (i : Nat) : M D := fun s => match s[i]? with
  | some (some (.own o)) => some (o.d, s.set i (some (.d o.d)))
  | some (some (.d d)) => some (d, s)
  | _ => none
theorem St.frz {K : PySem.W.Frag} {mg : Str → Option Value} {sd : S} {σ : L2.St} {H W : Hp} {i : Nat} {o : O} (st : St K mg sd σ H W) (e : sd[i]? = some (some (.own o))) :
    ∃ a W', σ[i]? = some (some (.ref a)) ∧ St K mg (sd.set i (some (.d o.d))) σ H W' ∧ Kp sd σ H W (sd.set i (some (.d o.d))) σ H W' ∧ DR K mg W' (.ref a) o.d := by
  obtain ⟨a, ea, w, r⟩ := st.own i o e
  have hi : i < sd.length := (List.getElem?_eq_some_iff.mp e).1
  have ow : Own sd σ a := ⟨i, o, e, ea⟩
  have go : ∀ u, H a = some u → DR K mg (upd W a u) (.ref a) o.d → ∃ b W', σ[i]? = some (some (.ref b)) ∧ St K mg (sd.set i (some (.d o.d))) σ H W' ∧ Kp sd σ H W (sd.set i (some (.d o.d))) σ H W' ∧ DR K mg W' (.ref b) o.d := by
    intro u hu rd
    have back : ∀ (j : Nat) (v : O), (sd.set i (some (A.d o.d)))[j]? = some (some (A.own v)) → i ≠ j ∧ sd[j]? = some (some (A.own v)) := fun j v h => by
      by_cases z : i = j
      · subst z; rw [List.getElem?_set_self hi] at h; cases h
      · rw [List.getElem?_set_ne z] at h; exact ⟨z, h⟩
    refine ⟨a, upd W a u, ea, ⟨st.tabs.step (upd_nt fun ps z => Bool.noConfusion (OR.mt (o := o) ⟨w, r⟩ (.tbl ps) (by rw [hu, z])).1) (fun b ps e wb => ⟨e, by rw [upd_ne fun z => Bool.noConfusion (OR.mt (o := o) ⟨w, r⟩ (.tbl ps) (by rw [← z]; exact e)).1]; exact wb⟩) fun _ _ e => e, fun x y z => ?_, by rw [List.length_set]; exact st.len, fun j d h => ?_, fun j v h => ?_, fun j k v v' x h1 h2 => ?_⟩, ⟨Le.upd w, fun x y h _ _ => h, fun x h h' n => ?_, fun x ⟨j, v, h1, h2⟩ => ?_, fun x h => h⟩, rd⟩
    · by_cases q : x = a
      · subst q; rw [upd_same] at z; rw [← z]; exact hu
      · rw [upd_ne q] at z; exact st.le x y z
    · by_cases z : i = j
      · subst z
        rw [List.getElem?_set_self hi] at h; cases h
        exact ⟨_, ea, rd⟩
      · rw [List.getElem?_set_ne z] at h
        obtain ⟨v, e1, r1⟩ := st.dat j d h
        exact ⟨v, e1, r1.le (Le.upd w)⟩
    · obtain ⟨z, h⟩ := back j v h
      obtain ⟨x, e1, w1, r1⟩ := st.own j v h
      have ne : x ≠ a := fun q => z (st.inj i j o v a e h ea (q ▸ e1))
      refine ⟨x, e1, by rw [upd_ne ne]; exact w1, ?_⟩
      cases v with
      | lst ds => obtain ⟨vs, r1, r2⟩ := r1; exact ⟨vs, r1, r2.le (Le.upd w)⟩
      | obj cc fs => obtain ⟨C, dx, gs, r0, r1, r2⟩ := r1; exact ⟨C, dx, gs, r0, r1, r2.le (Le.upd w)⟩
      | dic kvs => obtain ⟨gs, r1, r2⟩ := r1; exact ⟨gs, r1, r2.le (Le.upd w)⟩
      | dit kvs => obtain ⟨gs, r1, r2⟩ := r1; exact ⟨gs, r1, r2.le (Le.upd w)⟩
    · obtain ⟨_, h1⟩ := back j v h1
      obtain ⟨_, h2⟩ := back k v' h2
      exact st.inj j k v v' x h1 h2
    · have ne : x ≠ a := fun z => n (z ▸ ow)
      rw [upd_ne ne]; exact h
    · obtain ⟨_, h1⟩ := back j v h1
      exact .inl ⟨j, v, h1, h2⟩
  cases o with
  | lst ds =>
    obtain ⟨vs, r1, r2⟩ := r
    exact go _ r1 (.lst upd_same (r2.le (Le.upd w)))
  | obj c fs =>
    obtain ⟨C, dx, gs, r0, r1, r2⟩ := r
    exact go _ r1 (.ins r0 upd_same (r2.le (Le.upd w)))
  | dic kvs =>
    obtain ⟨gs, r1, r2⟩ := r
    exact go _ r1 (.dic (.inl upd_same) (r2.le (Le.upd w)))
  | dit kvs =>
    obtain ⟨gs, r1, r2⟩ := r
    exact go _ r1 (.dit upd_same (r2.le (Le.upd w)))
section
variable {X : Cx} {pos p2 : Pos} {x : Str} {pr : List Nat}
theorem e_frzN (i : Nat) (hn : PE X (.Name x p2) (tVar i)) : DE X (.Name x p2) (frzN i) := PE.imp hn fun σ H Q ⟨sd, W, d, sd', st, em, q⟩ => by
  unfold frzN at em
  split at em
  · rename_i o e
    cases em
    obtain ⟨a, W', ea, g1, g2, r⟩ := st.frz e
    exact ⟨_, ea, q _ H W' g1 g2 r⟩
  · rename_i d' e
    cases em
    obtain ⟨v, ev, r⟩ := st.dat i _ e
    exact ⟨v, ev, q v H W st Kp.refl r⟩
  · cases em
end
end Fli
set_option Elab.async false
set_option linter.all false
set_option maxRecDepth 100000
set_option maxHeartbeats 4000000
namespace Fli
open PySem PySem.Spec PyProof.Rows L2
variable [HW]

/-! len, ==, truth, str of own objects -/
section
variable {X : Cx} {k : Nat} {f : Addr} {fd : FuncData} {ps : List Str} {sp : Sp}
end
/-- what a method of one object gives, on data -/
def ownM (n : Nat) (body : MS) (as : List D) : Option D := (callR n body (as.map .d)).bind fun o => match o with
  | .rd d _ => some d
  | .nx _ => some .non
  | _ => none
theorem t_own {K : PySem.W.Frag} {mg : Str → Option Value} {N ps : List Str} {n : Nat} {body : MS} {sd : S} {σ : L2.St} {H W : Hp} {vs : List V} {as : List D} {d : D} {Q : VK} {E : XK} (hn : N.length = n) (hl : as.length = ps.length) (st : St K mg sd σ H W) (r : DRs K mg W vs as) (em : ownM n body as = some d)
    (q : ∀ v H' W', St K mg sd σ H' W' → Kp sd σ H W sd σ H' W' → DR K mg W' v d → Q v H') : spM K mg N ps [] body vs H Q E := by
  simp only [ownM, Option.bind_eq_some_iff] at em
  obtain ⟨o, e2, em⟩ := em
  refine ⟨by rw [r.len]; exact hl, startS n (as.map .d), W, o, st.call hn r, e2, ?_⟩
  cases o with
  | rd d' s2 =>
    cases em
    intro v σ2 H2 W2 st2 k2 _ r
    obtain ⟨g1, g2⟩ := st.after k2 st2 fun a => noown_start
    exact q v H2 W2 g1 g2 r
  | nx s2 =>
    cases em
    intro σ2 H2 W2 st2 k2 _
    obtain ⟨g1, g2⟩ := st.after k2 st2 fun a => noown_start
    exact q _ H2 W2 g1 g2 .non
  | _ => cases em
def insC (c : Str) : D → Option D
  | .ins c' fs => if c' = c then some (.ins c' fs) else none
  | _ => none
def lenC (n : Nat) (body : MS) (c : Str) (x : D) : Option D := (insC c x).bind fun x => (ownM n body [x]).bind fun r => match r with
  | .int m => if 0 ≤ m ∧ m < 2 ^ 63 then some (.int m) else none
  | _ => none
def strC (n : Nat) (body : MS) (c : Str) (x : D) : Option D := (insC c x).bind fun x => (ownM n body [x]).bind fun r => match r with
  | .str m => some (.str m)
  | _ => none
def truC (n : Nat) (body : MS) (c : Str) (x : D) : Option Bool := (lenC n body c x).bind fun r => match r with
  | .int m => some (m != 0)
  | _ => none
section
variable {X : Cx} {k n : Nat} {f C : Addr} {fd : FuncData} {N ps : List Str} {body : MS} {c : Str} {e a b : Expr} {p pos : Pos} {m ma mb : M D}
end
end Fli
set_option Elab.async false
set_option linter.all false
set_option maxRecDepth 100000
set_option maxHeartbeats 4000000
namespace Fli
open PySem PySem.Spec PyProof.Rows L2
variable [HW]

/-! operations on data of any kind, lists among it (what they give is data) -/
def addL : D → D → Option D
  | .lst as, .lst bs => if as.length + bs.length ≤ sizeLine then some (.lst (as ++ bs)) else none
  | a, b => addD a b
def slL (x : D) (lo hi : Option Int) : Option D := match x with
  | .lst ds => some (.lst (cutD ds lo hi))
  | .scr ns => some (.lst ((cutD ns lo hi).map .int))
  | .tup ds => some (.tup (cutD ds lo hi))
  | .str z => if z.length ≤ sizeLine then some (.str (cutS z lo hi)) else none
  | _ => none
def negD : D → Option D
  | .int i => some (.int (-i))
  | _ => none
section
variable {X : Cx} {a e : Expr} {pos p2 : Pos} {ma m : M D} {lo hi : Option Expr} {ml mh : M (Option Int)}
def rAddL (K : PySem.W.Frag) : R2 := orR (rAddD K) rCat
theorem op_addL : OpR X (binaryOp .Add) (rAddL X.K) := op_or op_addA op_cat
theorem rd_addL {K : PySem.W.Frag} {mg : Str → Option Value} : R2D K mg (rAddL K) addL := by
  intro x y z vx vy sd σ H W st hx hy hf Q q
  unfold addL at hf
  split at hf
  · split at hf
    · rename_i h
      cases hf
      cases hx with
      | lst sx rx =>
        cases hy with
        | lst sy ry =>
          have l1 := rx.len
          have l2 := ry.len
          refine .inr ⟨_, _, _, _, rfl, rfl, st.le _ _ sx, st.le _ _ sy, by rw [l1, l2]; exact h, fun p hp => ?_⟩
          obtain ⟨g1, g2⟩ := st.newV hp (.lst _)
          exact q _ _ _ g1 g2 (.lst upd_same ((rx.app ry).le (Le.upd (st.free hp))))
    · cases hf
  · exact .inl (rd_add x y z vx vy sd σ H W st hx hy hf Q q)
theorem e_neg (h : DE X e m) : DE X (.UnaryOp .USub e pos) (bindM m fun d => optM (negD d)) := PE.imp (pe_un un_neg h) fun σ H Q ⟨sd, W, z, sd', st, em, q⟩ => by
  obtain ⟨d, s1, e1, em⟩ := bindM_some em
  obtain ⟨e2, rfl⟩ := optM_some em
  refine ⟨sd, W, d, sd', st, e1, fun v H1 W1 st1 k1 r => ?_⟩
  cases d <;> cases e2
  cases r
  exact ⟨_, rfl, q _ H1 W1 st1 k1 (.int _)⟩
def rSlA' (K : PySem.W.Frag) : V → Option Int → Option Int → Hp → VK → Prop := fun x lo hi H Q => rSlL K x lo hi H Q ∨ rSlF K x lo hi H Q ∨ rSlS x lo hi H Q
theorem sl_any : SlR X (rSlA' X.K) := by
  intro pins s σ H x v vl vu lo hi sl Q I rx hs pl pu h
  rcases h with h | h | h
  · exact sl_list pins s σ H x v vl vu lo hi sl Q I rx hs pl pu h
  · exact sl_tupF pins s σ H x v vl vu lo hi sl Q I rx hs pl pu h
  · exact sl_str pins s σ H x v vl vu lo hi sl Q I rx hs pl pu h
theorem e_slA (ha : DE X a ma) (hl : IP X lo ml) (hh : IP X hi mh) : DE X (.Subscript a (.Slice lo hi none p2) pos) (slM slL ma ml mh) := PE.imp (pe_slice sl_any ha hl hh) fun σ H Q ⟨sd, W, d, sd', st, em, q⟩ => by
  obtain ⟨x, s1, e1, em⟩ := bindM_some em
  obtain ⟨l, s2, e2, em⟩ := bindM_some em
  obtain ⟨u, s3, e3, em⟩ := bindM_some em
  obtain ⟨e4, rfl⟩ := optM_some em
  refine ⟨sd, W, x, s1, st, e1, fun v H1 W1 st1 k1 r1 => ⟨s1, W1, l, s2, st1, e2, fun H2 W2 st2 k2 => ⟨s2, W2, u, sd', st2, e3, fun H3 W3 st3 k3 => ?_⟩⟩⟩
  have r3 := (r1.le k2.le).le k3.le
  have kk := (k1.trans k2).trans k3
  cases r3 with
  | @tup _ _ ds s r =>
    cases e4
    refine .inr (.inl ⟨_, _, rfl, st_le st3.le s, fun z => ?_, fun _ p ob hp ho => ?_⟩)
    · refine q _ H3 W3 st3 kk (.tup s ?_)
      have : cutD ds l u = ds := by
        unfold cutD
        rw [r.len] at z
        rw [z.1, z.2]; simp
      rw [this]; exact r
    · obtain ⟨g1, g2⟩ := st3.newV hp (.frz ob (.tup _))
      exact q _ _ _ g1 (kk.trans g2) (.tup (.inl ⟨ob, upd_same, ho⟩) ((cut_rs r).le (Le.upd (st3.free hp))))
  | lst s r =>
    cases e4
    refine .inl ⟨_, _, rfl, .inl (.inl (st3.le _ _ s)), fun p hp => ?_⟩
    obtain ⟨g1, g2⟩ := st3.newV hp (.lst _)
    exact q _ _ _ g1 (kk.trans g2) (.lst upd_same ((cut_rs r).le (Le.upd (st3.free hp))))
  | @scr _ ns s =>
    cases e4
    refine .inl ⟨_, _, rfl, sl_le st3.le s, fun p hp => ?_⟩
    obtain ⟨g1, g2⟩ := st3.newV hp (.lst (cutV (ns.map V.int) l u))
    have : cutV (ns.map V.int) l u = (cutD ns l u).map V.int := by
      unfold cutV cutD
      rw [List.length_map, List.map_take, List.map_drop]
    refine q _ _ _ g1 (kk.trans g2) (.lst upd_same ?_)
    rw [this]
    exact ints_rs
  | str z =>
    simp only [slL] at e4
    split at e4 <;> cases e4
    exact .inr (.inr ⟨_, rfl, by assumption, q _ H3 W3 st3 kk (.str _)⟩)
  | _ => cases e4

def blD : D → Option Bool
  | .bl b => some b
  | _ => none
theorem t_test {t : TE} {m : M D} {K : PySem.W.Frag} {mg : Str → Option Value} (h : ∀ σ H Q, tD K mg m σ H Q → t σ H Q) {σ : L2.St} {H : Hp} {Q : Bool → Hp → Prop} (q : tB K mg (bindM m fun d => optM (blD d)) σ H Q) : tTest t σ H Q := by
  obtain ⟨sd, W, k, sd', st, em, q⟩ := q
  obtain ⟨d, s1, e1, em⟩ := bindM_some em
  obtain ⟨e2, rfl⟩ := optM_some em
  refine h σ H _ ⟨sd, W, d, sd', st, e1, fun v H1 W1 st1 k1 r => ?_⟩
  cases d <;> cases e2
  cases r
  exact ⟨_, rfl, q H1 W1 st1 k1⟩
theorem b_cmp {b : Expr} {op : CmpOp} {r : R2} {f : D → D → Option D} {mb : M D} (ho : OpR X (compareOp op) r) (hr : R2D X.K X.mg r f) (ha : DE X a ma) (hb : DE X b mb) (hm : behindInMarks op b = false) : BT X (.Compare a [op] [b] pos) (bindM (mBin f ma mb) fun d => optM (blD d)) :=
  PT.imp (pt_cmpR ho ha hb hm) fun _ _ _ q => t_test (fun _ _ _ h => t_bin hr h) q
theorem b_chain {b c : Expr} {op op' : CmpOp} {r r' : R2} {f g : D → D → Option D} {mb mc : M D} (ho : OpR X (compareOp op) r) (ho' : OpR X (compareOp op') r') (hr : R2D X.K X.mg r f) (hr' : R2D X.K X.mg r' g) (ha : DE X a ma) (hb : DE X b mb) (hc : DE X c mc)
    (hm : lastMarks [op, op'] [b, c] = false := by rfl) : BT X (.Compare a [op, op'] [b, c] pos) (bindM (chM f g ma mb mc) fun d => optM (blD d)) :=
  PT.imp (pt_chain ho ho' ha hb hc hm) fun _ _ _ q => t_test (fun _ _ _ h => t_chain hr hr' h) q

section
variable {elt tg iter b1 : Expr} {ifs : List Expr} {scope : Scope} {own : List (Str × Nat)} {p p3 py spos : Pos} {g : TG} {asg : D → S → Option S} {c : M Bool} {i : Nat} {y : Str} {vs pr : List Nat} {ms : M (List D)}
theorem s_setLcL {mi : M D} (hvs : own.map (fun x => x.2) = vs) (hc : X.calm = true) (hN : X.N.Nodup) (hi : DE X iter mi) (ok : BlkOk X.N X.env.scope scope own)
    (hg : ∀ (s : Shared) (H : Hp) (C : Addr) (cl : List (Str × Addr)) (fp : List Addr), PG (X.blk s H scope (compEnvC scope cl C X.env) fp) tg g) (hf : TGk X.K X.mg [] g asg) (hw : TGw vs g)
    (ht : ∀ (s : Shared) (H : Hp) (C : Addr) (cl : List (Str × Addr)) (fp : List Addr), PTs (X.blk s H scope (compEnvC scope cl C X.env) fp) ifs (Fli.tB X.K X.mg c))
    (he : ∀ (s : Shared) (H : Hp) (C : Addr) (cl : List (Str × Addr)) (fp : List Addr), PE (X.blk s H scope (compEnvC scope cl C X.env) fp) elt (tD X.K X.mg m)) (hy : X.N[i]? = some y) (hyl : X.env.scope.names.lookup y = some .local) (hp : i ∉ pr)
    (hfs : ∀ (x : Value), foldedSetIterable iter X.env x = pure x := by intro _; rfl) (hsw : swapsWith (.ListComp elt [⟨tg, iter, ifs, 0⟩] scope pos) (some (.Name y py)) spos.line X.env = pure true := by exact sw_true rfl rfl rfl (by decide +kernel)) :
    SE X pr (.Assign [.Name y py] (.ListComp elt [⟨tg, iter, ifs, 0⟩] scope pos) spos) (asgO (cplL mi vs asg c m) i) := by
  subst hvs
  have h1 := ps_setLc hc hN hy hyl hsw (pi_list (tg := tg) hi) ok hg ht he hfs
  have h2 := ps_setLc hc hN hy hyl hsw (pi_tup (tg := tg) hi) ok hg ht he hfs
  have h3 := ps_setLc hc hN hy hyl hsw (pi_str (tg := tg) hi) ok hg ht he hfs
  refine ⟨fun pins s σ H D I h => ?_⟩
  rcases t_cplL hf hw (t_asgO hp h) with h | h | h
  · exact h1.run pins s σ H D I h
  · exact h2.run pins s σ H D I h
  · exact h3.run pins s σ H D I h
end
end
end Fli
set_option Elab.async false
set_option linter.all false
set_option maxRecDepth 100000
set_option maxHeartbeats 4000000
namespace Fli
open PySem PySem.Spec PyProof.Rows L2
variable [HW]

def FunX (K : PySem.W.Frag) (mg : Str → Option Value) (x : Str) (st : Stmt) : Prop := ∃ f fd, Fun K x x st f fd ∧ mg x = some (.ref f)
def DefX (P : Program) (w : World) (K : PySem.W.Frag) (mg : Str → Option Value) (base : Heap) (k : Nat) (x : Str) (N ps : List Str) (pr : List Nat) (body : MS) : Prop :=
  ∃ f fd, FnOk P w K mg base CX0 k f fd ps (spM K mg N ps pr body) ∧ mg x = some (.ref f) ∧ PySem.W.keepIn K (.ref f) = true ∧ Binds K fd ps []
section
variable {X : Cx} {k n j : Nat} {N ps : List Str} {body : MS} {x y : Str} {p pos p2 : Pos} {e : Expr} {es : List Expr} {ms : M (List D)}
theorem e_callX (d : DefX X.prog X.w X.K X.mg X.base k x N ps [] body) (hr : Room k X.A) (hg : Gl X x) (hn : N.length = n) (hs : LA X (e :: es) ms) (hl : LenIs ms j) (hj : j = ps.length) (hdb : (x == ("__debug__" : Str)) = false := by decide) (he : starEach (e :: es) X.env = (false, eval e X.env) :: starEach es X.env := by rfl) (hpl : (backTo pos (starEach es X.env)).any (·.1) = false := by rfl) :
    DE X (.Call (.Name x p) (e :: es) [] pos) (callD n body ms []) := by
  obtain ⟨f, fd, F, hm, hk, hb⟩ := d
  exact e_call F hr hg hm hk hb .nil (fun _ => .nil) hn hs hl hj hdb he hpl
theorem o_callX (d : DefX X.prog X.w X.K X.mg X.base k x N ps [] body) (hr : Room k X.A) (hg : Gl X x) (hn : N.length = n) (hs : LA X (e :: es) ms) (hl : LenIs ms j) (hj : j = ps.length) (hdb : (x == ("__debug__" : Str)) = false := by decide) (he : starEach (e :: es) X.env = (false, eval e X.env) :: starEach es X.env := by rfl) (hpl : (backTo pos (starEach es X.env)).any (·.1) = false := by rfl) :
    OE X (.Call (.Name x p) (e :: es) [] pos) (callO n body ms []) := by
  obtain ⟨f, fd, F, hm, hk, hb⟩ := d
  exact o_call F hr hg hm hk hb .nil (fun _ => .nil) hn hs hl hj hdb he hpl
theorem e_lendX (i : Nat) (d : DefX X.prog X.w X.K X.mg X.base k x N ps [0] body) (hr : Room k X.A) (hg : Gl X x) (hn : N.length = n) (hy : PE X (.Name y p2) (tVar i)) (hs : LA X es ms) (hl : LenIs ms j) (hj : j + 1 = ps.length) (hdb : (x == ("__debug__" : Str)) = false := by decide) (he : starEach (.Name y p2 :: es) X.env = (false, eval (.Name y p2) X.env) :: starEach es X.env := by rfl) (hpl : (backTo pos (starEach es X.env)).any (·.1) = false := by rfl) :
    DE X (.Call (.Name x p) (.Name y p2 :: es) [] pos) (lendD n body i ms) := by
  obtain ⟨f, fd, F, hm, hk, hb⟩ := d
  exact e_lend i F hr hg hm hk hb hn hy hs hl hj hdb he hpl
end
/-- the built-in names that the module leaves alone -/
structure Txt (K : PySem.W.Frag) (mg : Str → Option Value) : Prop where
  len : mg "len" = none
  int : mg "int" = none
  abs : mg "abs" = none
  range : mg "range" = none
  min : mg "min" = none
  max : mg "max" = none
  tuple : mg "tuple" = none
  list : mg "list" = none
  all : mg "all" = none
  repr : mg "repr" = none
  isinstance : mg "isinstance" = none
  enumerate : mg "enumerate" = none
  str : mg "str" = none
  bool : mg "bool" = none
end Fli
set_option Elab.async false
set_option linter.all false
set_option maxRecDepth 100000
set_option maxHeartbeats 4000000
namespace Fli
open PySem PySem.Spec PyProof.Rows L2
variable [HW]

/-! constants of the module -/
def ConD (K : PySem.W.Frag) (mg : Str → Option Value) (x : Str) (d : D) : Prop := ∃ v u, mg x = some u ∧ RelV v u ∧ ∀ W, DR K mg W v d
theorem con_int {K : PySem.W.Frag} {mg : Str → Option Value} {x : Str} {i : Int} {t : Tok} (h : mg x = some (.int i t)) : ConD K mg x (.int i) := ⟨.int i, _, h, ⟨t, rfl⟩, fun _ => .int i⟩
theorem con_str {K : PySem.W.Frag} {mg : Str → Option Value} {x y : Str} {t : Tok} (h : mg x = some (.str y t)) : ConD K mg x (.str y) := ⟨.str y, _, h, ⟨t, rfl⟩, fun _ => .str y⟩
theorem str_drs {K : PySem.W.Frag} {mg : Str → Option Value} {W : Hp} : ∀ {ys : List Str}, DRs K mg W (ys.map V.str) (ys.map D.str)
  | [] => .nil
  | _ :: _ => .cons (.str _) str_drs
/-- a tuple of texts that the module holds -/
theorem con_tup {K : PySem.W.Frag} {mg : Str → Option Value} {x : Str} {a : Addr} {its : Array Value} {sl : Array (Option Value)} {ys : List Str} (h : mg x = some (.ref a)) (l : K.lookup a = some ⟨.type "tuple", none, .seq its 0, sl⟩) (hz : its.size ≤ sizeLine) (r : Vals (ys.map V.str) its.toList) : ConD K mg x (.tup (ys.map D.str)) :=
  ⟨.ref a, _, h, rfl, fun _ => .tup (.inr ⟨_, its, 0, l, rfl, rfl, rfl, hz, r⟩) str_drs⟩
section
variable {X : Cx} {e a b : Expr} {x : Str} {p pos apos p2 : Pos} {d : D} {ma mb m : M D} {pr : List Nat} {st : Stmt}
theorem ConD.dE (c : ConD X.K X.mg x d) (hg : Gl X x) (hd : (x == ("__debug__" : Str)) = false := by decide) : DE X (.Name x pos) (retM d) := by
  obtain ⟨v, u, h1, h2, h3⟩ := c
  exact e_glob hg h1 h2 h3 hd
/-- a statement that is not reached -/
def stuckM : MS := fun _ => none
theorem s_never : SE X pr st stuckM := PS.imp ps_never fun D σ H ⟨sd, W, out, _, em, _⟩ => nomatch em

/-! methods and operators of own objects -/
/-- what own == needs besides: no other type stands ahead -/
structure Ahead (K : PySem.W.Frag) (mg : Str → Option Value) (c : Str) : Prop where
  h : ∀ C, mg c = some (.ref C) → ∀ t : String, t ∈ ["NoneType", "bool", "int", "str", "tuple", "list"] → PySem.W.notFirst K C (.type t) = true
/-- x == y, x an own object -/
def eqO (n : Nat) (body : MS) (c : Str) (x y : D) : Option D := (insC c x).bind fun x => if (tyD y).isSome || (insC c y).isSome then (ownM n body [x, y]).bind fun r => match r with
  | .bl b => some (.bl b)
  | _ => none else none
/-- x.m() -/
def methO (n : Nat) (body : MS) (c m : Str) (x : D) : Option D := (insC c x).bind fun x => match x with
  | .ins _ fs => if (fs.lookup m).isNone then ownM n body [x] else none
  | _ => none
theorem DFs.no {K : PySem.W.Frag} {mg : Str → Option Value} {W : Hp} {f : Str} : ∀ {gs : List (Str × V)} {fs : List (Str × D)}, DFs K mg W gs fs → fs.lookup f = none → gs.lookup f = none
  | _, _, .nil, _ => rfl
  | _, _, @DFs.cons _ _ _ _ n v gs e fs r s, h => by
    rw [List.lookup_cons] at h ⊢
    cases q : f == n with
    | true => rw [q] at h; cases h
    | false => rw [q] at h; exact DFs.no s h
end
end Fli
set_option Elab.async false
set_option linter.all false
set_option maxRecDepth 100000
set_option maxHeartbeats 4000000
namespace Fli
open PySem PySem.Spec PyProof.Rows L2
variable [HW]

/-! an own class, as the module holds it -/
structure ClsAt (K : PySem.W.Frag) (C : Addr) (fields : List Str) : Prop where
  it : InsTy K C
  na : ∀ f ∈ fields, NoAttr K C f
  ki : ∀ t : String, t ∈ ["NoneType", "bool", "int", "str", "tuple", "list"] → PySem.W.kitOne K (.type t) (.ref C) = some false
  nf : ∀ t : String, t ∈ ["NoneType", "bool", "int", "str", "tuple", "list"] → PySem.W.notFirst K C (.type t) = true
def OwnC (K : PySem.W.Frag) (mg : Str → Option Value) (c : Str) (fields : List Str) : Prop := ∃ C, mg c = some (.ref C) ∧ ClsAt K C fields
/-- its __init__ and how its arguments come -/
def MakeX (P : Program) (w : World) (K : PySem.W.Frag) (mg : Str → Option Value) (base : Heap) (k : Nat) (c : Str) (N ps : List Str) (dd : List D) (body : MS) : Prop :=
  ∃ C f fd dvs ds, mg c = some (.ref C) ∧ Mk K C f ∧ FnOk P w K mg base CX0 k f fd ps (spM K mg N ps [0] body) ∧ Binds K fd ps ds ∧ Vals dvs ds ∧ ∀ W, DRs K mg W dvs dd
def dropM (m : M D) : MS := fun s => (m s).map fun p => .nx p.2
section
variable {X : Cx} {e a b : Expr} {es : List Expr} {x c f : Str} {p pos apos p2 : Pos} {ma mb m : M D} {ms : M (List D)} {pr : List Nat} {fields : List Str}
theorem s_drop (h : DE X e m) (hs : swapsWith e none pos.line X.env = pure false := by rfl) : SE X pr (.Expr e pos) (dropM m) := PS.imp (ps_expr h hs) fun D σ H ⟨sd, W, out, st, em, q⟩ => by
  simp only [dropM, Option.map_eq_some_iff] at em
  obtain ⟨⟨d, s1⟩, e1, rfl⟩ := em
  exact ⟨sd, W, d, s1, st, e1, fun v H1 W1 st1 k1 r => q σ H1 W1 st1 k1 Pr.refl⟩
theorem e_fldX (oc : OwnC X.K X.mg c fields) (hf : f ∈ fields) (h : DE X e m) (hb : attributeBase e f X.env (eval e X.env) = eval e X.env := by rfl) : DE X (.Attribute e f pos) (bindM m fun d => optM (fldD c f d)) := by
  obtain ⟨C, hm, cl⟩ := oc
  exact e_fld h cl.it.cl (cl.na f hf) hm hb
theorem e_isX (oc : OwnC X.K X.mg x fields) (h : DE X e m) (hg : Gl X "isinstance") (hm : X.mg "isinstance" = none) (hgx : Gl X x) (hdb : (x == ("__debug__" : Str)) = false := by decide)
    (he : starEach [e, .Name x p2] X.env = (false, eval e X.env) :: starEach [.Name x p2] X.env := by rfl) (he2 : starEach [.Name x p2] X.env = (false, eval (.Name x p2) X.env) :: starEach [] X.env := by rfl) (hpl : (backTo pos (starEach [.Name x p2] X.env)).any (·.1) = false := by rfl) :
    DE X (.Call (.Name "isinstance" p) [e, .Name x p2] [] pos) (bindM m fun d => optM (isC x d)) := by
  obtain ⟨C, hx, cl⟩ := oc
  exact e_isC h hg hm hgx hx cl.it cl.ki hdb he he2 hpl
theorem s_fldX (i : Nat) (oc : OwnC X.K X.mg c fields) (hf : f ∈ fields) (hn : PE X (.Name x p2) (tVar i)) (h : DE X e m) (hsw : swapsWith e (some (.Attribute (.Name x p2) f apos)) pos.line X.env = pure false := by rfl) :
    SE X pr (.Assign [.Attribute (.Name x p2) f apos] e pos) (setFM i c f m) := by
  obtain ⟨C, hm, cl⟩ := oc
  refine PS.imp (ps_fld hn h hsw) fun D σ H ⟨sd, W, out, st, em, q⟩ => ?_
  simp only [setFM, Option.bind_eq_some_iff] at em
  obtain ⟨⟨d, s1⟩, e1, em⟩ := em
  refine ⟨sd, W, d, s1, st, e1, fun v H1 W1 st1 k1 r => ?_⟩
  split at em
  · rename_i c' fs hs
    split at em
    · rename_i hc
      obtain ⟨rfl, hz⟩ := hc
      cases em
      have es := slotO_some hs
      obtain ⟨a, ha, w, C', dx, gs, m1, g1, r1⟩ := st1.own i _ es
      rw [hm] at m1
      cases m1
      obtain ⟨g2, g3⟩ := st1.put (ho := .ins C dx (putF f v gs)) (o' := .obj c' (putD f d fs)) es ha w ⟨w, _, _, _, hm, upd_same, r1.put r⟩
      exact ⟨_, ha, a, C, dx, gs, rfl, g1, cl.it.cl, cl.na f hf, by rw [r1.len]; exact hz, q σ _ _ g2 (k1.trans g3) Pr.refl⟩
    · cases em
  · cases em
end

/-! str of an own object; its truth by its length -/
section
variable {X : Cx} {k n : Nat} {c : Str} {e : Expr} {p pos : Pos} {m : M D} {N ps : List Str} {body : MS}
end
end Fli
set_option Elab.async false
set_option linter.all false
set_option maxRecDepth 100000
set_option maxHeartbeats 4000000
namespace Fli
open PySem PySem.Spec PyProof.Rows L2
variable [HW]

/-! x != y of own objects of one class, where no __ne__ is written -/
def neO (n : Nat) (body : MS) (c : Str) (x y : D) : Option D := (insC c x).bind fun x => (insC c y).bind fun y => (ownM n body [x, y]).bind fun r => match r with
  | .bl b => some (.bl !b)
  | _ => none
section
variable {X : Cx} {a b : Expr} {p pos : Pos} {ma mb m : M D} {k n : Nat} {c : Str} {N ps : List Str} {body : MS}
end

/-! bool(x) of an own object with a length -/
section
variable {prog : Program} {w : World} {A : Around} {E : Value → Shared → Prop} {s : Shared}
end
section
variable {X : Cx} {e : Expr} {p pos : Pos} {m : M D} {ms : M (List D)} {k n : Nat} {c x : Str} {N ps ks : List Str} {body : MS}
end
theorem _root_.L2.Room.un66 {k : Nat} {A : Around} (hr : Room k A) : A.units + 66 < cLine := by have := hr.un; omega
def DefG (P : Program) (w : World) (K : PySem.W.Frag) (mg : Str → Option Value) (base : Heap) (k : Nat) (x : Str) (N ps : List Str) (pr : List Nat) (body : MS) : Prop :=
  ∃ f fd, FnG P w K mg base k f fd ps (spM K mg N ps pr body) ∧ mg x = some (.ref f) ∧ PySem.W.keepIn K (.ref f) = true ∧ Binds K fd ps []
theorem e_giveX {X : Cx} {k n : Nat} {N ps : List Str} {body : MS} {x : Str} {p pos : Pos} {e : Expr} {mo : M O} (d : DefG X.prog X.w X.K X.mg X.base k x N ps [0] body) (gd : X.A.guards = some []) (hr : Room k X.A) (hg : Gl X x) (hn : N.length = n) (hj : 1 = ps.length) (ha : OE X e mo) (hdb : (x == ("__debug__" : Str)) = false := by decide)
    (he : starEach [e] X.env = (false, eval e X.env) :: starEach [] X.env := by rfl) (hpl : (backTo pos (starEach [] X.env)).any (·.1) = false := by rfl) : DE X (.Call (.Name x p) [e] [] pos) (giveD n body mo) := by
  obtain ⟨f, fd, F, hm, hk, hb⟩ := d
  exact e_giveG F gd hr hg hm hk hb hn hj ha hdb he hpl
section
variable {X : Cx} {a b : Expr} {pos : Pos} {ma mb : M D} {k n : Nat} {c : Str} {N ps fields : List Str} {body : MS}
end
end Fli
set_option Elab.async false
set_option linter.all false
set_option maxRecDepth 100000
set_option maxHeartbeats 4000000
namespace Fli
open PySem PySem.Spec PyProof.Rows L2
variable [HW]

/-! what the top has left, as facts -/
section
variable {P : Program} {w : World} {K : PySem.W.Frag} {mg : Str → Option Value} {base : Heap} {h : Heap}
theorem def_okD {x qual : Str} {st : Stmt} {f : Addr} {fd : FuncData} {N ps : List Str} {k : Nat} {pr : List Nat} {body : MS} {dvs : List V} (F : FunD K x qual (defArgs st) (defBody st) (defScope st) dvs [] f fd) (Sc : FnScope N ps (defScope st))
    (hb : ∀ (cdv : Value) (A : Around) (outer : List Env) (s : Shared) (H : Hp) (E : XK), Room k (A.deeper (PyProof.Rows.envOfC qual (defScope st) s.heap.objs.size f cdv)) → SEs (cxOf CX0 P w K mg base N qual (defScope st) f cdv A outer s H E).nox pr (defBody st) body) :
    FnOk P w K mg base CX0 (k + 1) f fd ps (spM K mg N ps pr body) :=
  F.ok Sc (fun vs H Q E h => h.1) fun cdv A outer s H vs Q E hr h => ⟨_, (hb cdv A outer s H E hr).nox, h.2⟩
theorem funX_mk {x : Str} {st : Stmt} {f : Addr} {oc : Value} {od an : Option Addr} {osl : Array (Option Value)} {kV doc pm cdv ct : Value} (X : K.In h) (G : h.Ns mainGlobals mg) (a : PySem.W.nsIn K mainGlobals x = some (some (.ref f)))
    (l : K.lookup f = some ⟨oc, od, .func (PySem.W.fnOf x x (defArgs st) (defBody st) (defScope st) .none kV doc pm an cdv ct), osl⟩) (c : PySem.W.codeIn K cdv x = true) (k : PySem.W.keepIn K (.ref f) = true) : FunX K mg x st :=
  ⟨f, _, fun_mk l c k, PySem.W.mg_of X G a⟩
def BindsLike (x q : Str) (st : Stmt) (ps : List Str) : Prop := ∀ (kV doc pm : Value) (an : Option Addr) (cdv ct : Value) (us : List Value), us.length = ps.length → bindArgs (PySem.W.fnOf x q (defArgs st) (defBody st) (defScope st) .none kV doc pm an cdv ct) ⟨us, []⟩ = pure (ps.zip us)
theorem FunX.defX {x : Str} {st : Stmt} {k : Nat} {N ps : List Str} {pr : List Nat} {body : MS} (F : FunX K mg x st) (ok : ∀ {f fd}, Fun K x x st f fd → FnOk P w K mg base CX0 k f fd ps (spM K mg N ps pr body)) (b : BindsLike x x st ps) : DefX P w K mg base k x N ps pr body := by
  obtain ⟨f, fd, F, hm⟩ := F
  exact ⟨f, fd, ok F, hm, F.kp, F.binds b⟩
theorem FunX.defG {x : Str} {st : Stmt} {k : Nat} {N ps : List Str} {pr : List Nat} {body : MS} (F : FunX K mg x st) (ok : ∀ {f fd}, Fun K x x st f fd → FnG P w K mg base k f fd ps (spM K mg N ps pr body)) (b : BindsLike x x st ps) : DefG P w K mg base k x N ps pr body := by
  obtain ⟨f, fd, F, hm⟩ := F
  exact ⟨f, fd, ok F, hm, F.kp, F.binds b⟩
/-- __init__ with defaults -/
def InitF (K : PySem.W.Frag) (mg : Str → Option Value) (C : Addr) (q : Str) (st : Stmt) (dd : List D) : Prop := ∃ f fd dvs, Mk K C f ∧ FunD K "__init__" q (defArgs st) (defBody st) (defScope st) dvs [] f fd ∧ ∀ W, DRs K mg W dvs dd
theorem initF_mk {q : Str} {st : Stmt} {C f T T0 : Addr} {oc : Value} {od an : Option Addr} {osl sl sl0 : Array (Option Value)} {kV doc pm cdv ct oc2 : Value} {od2 : Option Addr} {n : Nat} (mk : PySem.W.makesIn K C = true) (kc : PySem.W.keepIn K (.ref C) = true) (a : PySem.W.findIn K (.ref C) "__init__" = some (some (.ref f))) (i : PySem.W.isFn K (.ref f) = true)
    (l : K.lookup f = some ⟨oc, od, .func (PySem.W.fnOf "__init__" q (defArgs st) (defBody st) (defScope st) (.ref T) kV doc pm an cdv ct), osl⟩) (cd : PySem.W.codeIn K cdv q = true) (k : PySem.W.keepIn K (.ref f) = true)
    (lt : K.lookup T = some ⟨oc2, od2, .seq #[.ref T0] n, sl⟩) (l0 : K.lookup T0 = some ⟨.type "tuple", none, .seq #[] 0, sl0⟩) : InitF K mg C q st [.tup []] :=
  ⟨f, _, [.ref T0], ⟨mk, a, i, kc⟩, ⟨⟨oc, od, _, kV, doc, pm, an, cdv, ct, osl, rfl, l, cd, .inr ⟨by simp, T, _, [.ref T0], n, rfl, lt, rfl, .cons rfl .nil⟩, .inl rfl⟩, k⟩,
    fun W => .cons (.tup (vs := []) (.inr ⟨_, #[], 0, l0, rfl, rfl, rfl, by decide, .nil⟩) .nil) .nil⟩
end
section
variable {P : Program} {w : World} {K : PySem.W.Frag} {mg : Str → Option Value} {base : Heap} {h : Heap} {c q : Str} {st : Stmt} {k : Nat} {N ps ks : List Str} {body : MS} {dd : List D}
def BindsDfl (q : Str) (st : Stmt) (ps : List Str) (n d : Nat) : Prop := ∀ (T : Addr) (kV doc pm : Value) (an : Option Addr) (cdv ct : Value) (us its : List Value), us.length = n → its.length = d →
  ∃ k, bindArgs (PySem.W.fnOf "__init__" q (defArgs st) (defBody st) (defScope st) (.ref T) kV doc pm an cdv ct) ⟨us, []⟩ = seqItems? (.ref T) >>= k ∧ k (some its.toArray) = pure (ps.zip (us ++ its.drop (n + d - ps.length)))
theorem vals_drs {W : Hp} : ∀ {vs : List V} {dd : List D} (n : Nat), DRs K mg W vs dd → DRs K mg W (vs.drop n) (dd.drop n)
  | _, _, 0, r => r
  | _, _, n + 1, .nil => .nil
  | _, _, n + 1, .cons _ r => vals_drs n r
/-- n positional arguments, the last ones of the defaults fill up -/
theorem InitF.makeX {C : Addr} (F : InitF K mg C q st dd) (hm : mg c = some (.ref C)) (n : Nat) (hd : dd ≠ []) (hn : n + (dd.length - (n + dd.length - ps.length)) = ps.length) (ok : ∀ {f fd dvs}, FunD K "__init__" q (defArgs st) (defBody st) (defScope st) dvs [] f fd → FnOk P w K mg base CX0 k f fd ps (spM K mg N ps [0] body))
    (b : BindsDfl q st ps n dd.length) : MakeX P w K mg base k c N ps (dd.drop (n + dd.length - ps.length)) body := by
  obtain ⟨f, fd, dvs, M, F, r⟩ := F
  have l : dvs.length = dd.length := (r fun _ => none).len
  obtain ⟨ds, r1, b1⟩ := FunD.binds1 (ps := ps) F n (n + dd.length - ps.length) (by rintro rfl; cases dd with | nil => exact hd rfl | cons _ _ => cases l) (by rw [l]; exact hn) fun T kV doc pm an cdv ct us its h1 h2 => b T kV doc pm an cdv ct us its h1 (h2.trans l)
  exact ⟨C, f, fd, _, ds, hm, M, ok F, b1, r1, fun W => vals_drs _ (r W)⟩
end
section
variable {P : Program} {w : World} {K : PySem.W.Frag} {mg : Str → Option Value} {base : Heap} {h : Heap} {c : Str}
theorem kit_own {C : Addr} {T : String} {cd : ClassData} (h1 : PySem.W.clsIn K C = some cd) (h2 : PySem.W.typeIn K (.ref C) = some (.type "type")) (h3 : PySem.W.subIn K (.type T) (.ref C) = some false) : PySem.W.kitOne K (.type T) (.ref C) = some false := by
  unfold PySem.W.kitOne PySem.W.kitCls
  rw [if_neg (by simp)]
  simp only [h1, h2, h3]
  simp
theorem ownC_mk {C : Addr} {fields : List Str} (hm : mg c = some (.ref C)) (cl : Cls K C) (a : PySem.W.findIn K (.ref C) "__class__" = some (some (.builtin "object.__class__"))) (b : PySem.W.specialIn K (.builtin "object.__class__") "__get__" = some (some (.builtin "getset_descriptor.__get__"))) (cc : PySem.W.takesIn K (.builtin "object.__class__") = some true)
    (d : PySem.W.mroIn K C (.type "object") = some true) (na : ∀ f ∈ fields, PySem.W.findIn K (.ref C) f = some none) {cd : ClassData} (q1 : PySem.W.clsIn K C = some cd) (q2 : PySem.W.typeIn K (.ref C) = some (.type "type"))
    (k1 : PySem.W.subIn K (.type "NoneType") (.ref C) = some false) (k2 : PySem.W.subIn K (.type "bool") (.ref C) = some false) (k3 : PySem.W.subIn K (.type "int") (.ref C) = some false) (k4 : PySem.W.subIn K (.type "str") (.ref C) = some false) (k5 : PySem.W.subIn K (.type "tuple") (.ref C) = some false) (k6 : PySem.W.subIn K (.type "list") (.ref C) = some false)
    (n1 : PySem.W.notFirst K C (.type "NoneType") = true) (n2 : PySem.W.notFirst K C (.type "bool") = true) (n3 : PySem.W.notFirst K C (.type "int") = true) (n4 : PySem.W.notFirst K C (.type "str") = true) (n5 : PySem.W.notFirst K C (.type "tuple") = true) (n6 : PySem.W.notFirst K C (.type "list") = true) : OwnC K mg c fields := by
  refine ⟨C, hm, ⟨⟨cl, a, b, cc, d⟩, na, fun t ht => ?_, fun t ht => ?_⟩⟩
  all_goals
    simp only [List.mem_cons, List.not_mem_nil, or_false] at ht
    rcases ht with rfl | rfl | rfl | rfl | rfl | rfl
    all_goals first | assumption | exact kit_own q1 q2 (by assumption)
theorem txt_mk {h : Heap} (X : K.In h) (G : h.Ns mainGlobals mg) (z1 : PySem.W.nsIn K mainGlobals "len" = some none) (z2 : PySem.W.nsIn K mainGlobals "int" = some none) (z3 : PySem.W.nsIn K mainGlobals "abs" = some none) (z4 : PySem.W.nsIn K mainGlobals "range" = some none) (z5 : PySem.W.nsIn K mainGlobals "min" = some none) (z6 : PySem.W.nsIn K mainGlobals "max" = some none) (z7 : PySem.W.nsIn K mainGlobals "tuple" = some none)
    (z8 : PySem.W.nsIn K mainGlobals "list" = some none) (z9 : PySem.W.nsIn K mainGlobals "all" = some none) (z10 : PySem.W.nsIn K mainGlobals "repr" = some none) (z11 : PySem.W.nsIn K mainGlobals "isinstance" = some none) (z12 : PySem.W.nsIn K mainGlobals "enumerate" = some none) (z13 : PySem.W.nsIn K mainGlobals "str" = some none) (z14 : PySem.W.nsIn K mainGlobals "bool" = some none) : Txt K mg :=
  have n {x : Str} (e : PySem.W.nsIn K mainGlobals x = some none) : mg x = none := PySem.W.mg_none_of X G e
  ⟨n z1, n z2, n z3, n z4, n z5, n z6, n z7, n z8, n z9, n z10, n z11, n z12, n z13, n z14⟩
end
end Fli
set_option Elab.async false
set_option linter.all false
set_option maxRecDepth 100000
set_option maxHeartbeats 4000000
namespace Fli
open PySem PySem.Spec PyProof.Rows L2
variable [HW]

/-! texts cut into lists, beginnings of texts -/
def splitD : D → D → Option O
  | .str a, .str b => if (b.length == 0) = false ∧ a.length + 2 ≤ sizeLine then some (.lst ((Txt.split a b).map D.str)) else none
  | _, _ => none
def swD : D → D → Option D
  | .str a, .str b => some (.bl (Txt.startswith a b))
  | _, _ => none
section
variable {X : Cx} {o e : Expr} {es : List Expr} {apos pos p p2 : Pos} {ma mb m : M D} {ms : M (List D)} {x : Str} {pr : List Nat}
theorem o_split (ho : DE X o ma) (he : DE X e mb) (h1 : starEach [e] X.env = [(false, eval e X.env)] := by rfl) (h2 : attributeBase o "split" X.env (eval o X.env) = eval o X.env := by rfl) (h3 : (apos.endLine == pos.line) = true := by rfl) :
    OE X (.Call (.Attribute o "split" apos) [e] [] pos) (mBinO splitD ma mb) := PE.imp (pe_split ho he h1 h2 h3) fun σ H Q ⟨sd, W, d, sd', st, em, q⟩ => by
  obtain ⟨a, s1, e1, em⟩ := bindM_some em
  obtain ⟨b, s2, e2, em⟩ := bindM_some em
  obtain ⟨e3, rfl⟩ := optM_some em
  refine ⟨sd, W, a, s1, st, e1, fun v H1 W1 st1 k1 r1 => ?_⟩
  unfold splitD at e3
  split at e3
  · cases r1
    refine ⟨⟨_, rfl⟩, s1, W1, _, sd', st1, e2, fun u H2 W2 st2 k2 r2 => ?_⟩
    cases r2
    split at e3
    · rename_i hz
      cases e3
      refine ⟨_, _, rfl, rfl, hz.1, hz.2, fun l hl => ?_⟩
      obtain ⟨g1, g2⟩ := st2.newO hl (.lst ((Txt.split _ _).map V.str))
      have k := k1.trans k2
      exact q l _ W2 g1 (k.trans g2) ⟨st2.free hl, _, upd_same, str_drs⟩ (st2.notOwn hl) (k.fresh hl)
    · cases e3
  · cases e3
theorem e_sw (ho : DE X o ma) (he : DE X e mb) (h1 : starEach [e] X.env = [(false, eval e X.env)] := by rfl) (h2 : attributeBase o "startswith" X.env (eval o X.env) = eval o X.env := by rfl) (h3 : (apos.endLine == pos.line) = true := by rfl) :
    DE X (.Call (.Attribute o "startswith" apos) [e] [] pos) (mBin swD ma mb) := PE.imp (pe_m1 PySem.F.slot_str_startswith PySem.F.type_str_startswith mt_startswith ho he h1 h2 h3) fun σ H Q ⟨sd, W, d, sd', st, em, q⟩ => by
  obtain ⟨a, s1, e1, em⟩ := bindM_some em
  obtain ⟨b, s2, e2, em⟩ := bindM_some em
  obtain ⟨e3, rfl⟩ := optM_some em
  refine ⟨sd, W, a, s1, st, e1, fun v H1 W1 st1 k1 r1 => ?_⟩
  unfold swD at e3
  split at e3
  · cases r1
    refine ⟨⟨_, rfl⟩, s1, W1, _, sd', st1, e2, fun u H2 W2 st2 k2 r2 => ?_⟩
    cases r2
    cases e3
    exact ⟨_, _, rfl, rfl, q _ H2 W2 st2 (k1.trans k2) (.bl _)⟩
  · cases e3
/-! stars: in a display, in a target -/
def seqLs : D → Option (List D)
  | .tup ds => some ds
  | .lst ds => some ds
  | _ => none
theorem la_star (h : DE X e m) (hs : LA X es ms) : LA X (.Starred e p :: es) (bindM m fun d => bindM (optM (seqLs d)) fun xs => bindM ms fun ds => retM (xs ++ ds)) := PA.imp (StX.pa_star h hs) fun σ H Q ⟨sd, W, d, sd', st, em, q⟩ => by
  obtain ⟨a, s1, e1, em⟩ := bindM_some em
  obtain ⟨xs, e2, em⟩ := bindO_some em
  obtain ⟨ds, s2, e3, em⟩ := bindM_some em
  cases em
  refine ⟨sd, W, a, s1, st, e1, fun v H1 W1 st1 k1 r1 => ?_⟩
  have go : ∀ (b : Addr) (vs : List V), v = .ref b → (SqT X.K H1 b vs ∨ SqL X.K H1 b vs) → DRs X.K X.mg W1 vs xs → ∃ c ys, v = V.ref c ∧ (SqT X.K H1 c ys ∨ SqL X.K H1 c ys) ∧ tL X.K X.mg ms σ H1 fun zs H2 => Q (ys ++ zs) H2 := fun b vs hv hq r =>
    ⟨b, vs, hv, hq, s1, W1, ds, sd', st1, e3, fun u H2 W2 st2 k2 r2 => q _ H2 W2 st2 (k1.trans k2) ((r.le k2.le).app r2)⟩
  cases a with
  | tup as => cases e2; cases r1 with | tup s r => exact go _ _ rfl (.inl (st_le st1.le s)) r
  | lst as => cases e2; cases r1 with | lst s r => exact go _ _ rfl (.inr (.inl (.inl (st1.le _ _ s)))) r
  | _ => cases e2
end
/-- (x, *ys) = a list -/
def gStar (K : PySem.W.Frag) (t : TGs) : TG := fun v σ H Q => ∃ a x xs, v = .ref a ∧ SqL K H a (x :: xs) ∧ ∀ p, H p = none → t [x, .ref p] σ (upd H p (.lst xs)) Q
theorem pg_star {X : Cx} {t1 t2 : Expr} {t : TGs} {k : Nat} {sp pos : Pos} (hc : X.calm = true) (h : PGs X [t1, t2] t) (hn : assignEach [t1, .Starred t2 sp] X.env = [(false, assign t1 X.env), (true, assign t2 X.env)] := by rfl)
    (hm : (assignEach [t1, t2] X.env).map (·.2) = [assign t1 X.env, assign t2 X.env] := by rfl) : PG X (.Tuple [t1, .Starred t2 sp] k pos) (gStar X.K t) := by
  constructor
  intro pins s σ H v u Q I r hw
  obtain ⟨a, x, xs, rfl, hq, hw⟩ := hw
  cases r
  obtain ⟨its, rv, pl, hz⟩ := I.list hq
  rw [PyProof.Rows.assign_Tuple]
  refine wpAny_bind (wpAny_standAt ?_)
  unfold unpack
  rw [hn]
  cases rv with
  | @cons _ u0 _ us rx rr =>
  have ne : a ≠ s.heap.objs.size := by
    obtain ⟨o, n, ho, _⟩ := pl
    exact Nat.ne_of_lt (Heap.lt_size ho)
  have hl := pl.isList
  have sz : (u0 :: us).toArray.size = us.length + 1 := by simp
  show wpAny _ _ (holding [Value.ref a] (unpackItems (.ref a) 2 (some 1)) >>= fun ys => assignInOrder [assign t1 X.env, assign t2 X.env] ys) _ _ _
  refine wpAny_bind (wpAny_holding ?_)
  unfold unpackItems notIterableAtAll
  refine wpAny_bind (wpAny_bind (wpAny_specialOf hl.typeIs PySem.F.slot_list_iter.lookup (wpAny_pure ?_)))
  simp only [Bool.false_eq_true, if_false]
  refine wpAny_bind (wpAny_holding (wpAny_pyIter_list hl ?_))
  refine wpAny_bind (wpAny_holding (PySem.W.kun_draw ne 1 0 _ _ ⟨_, Heap.get?_push_size _ rfl, rfl, rfl⟩ (hl.push _) (by omega) fun h1 it1 sb1 => ?_))
  have hl1 : h1.IsList a (u0 :: us).toArray := (hl.push _).extBut sb1.extBut ne
  obtain ⟨oi, hoi, q1, q2⟩ := it1
  obtain ⟨ol, hol, q3⟩ := id hl1
  have e1 : ((u0 :: us).toArray.toList.drop 0).take 1 = [u0] := by simp
  rw [e1]
  simp only [List.length_singleton, Nat.lt_irrefl, if_false]
  refine wpAny_bind (wpAny_holding (PySem.W.kun_collect (s := { s with heap := h1 }) (T := "list_iterator") (.inr (.inr (.inl rfl))) (PySem.Walks.list (A := X.A.in1) (I.ok.hd hc) s.heap.objs.size a ne (u0 :: us).toArray) (fun j w z => z.1.typeIs) (k := 1) (by omega) ⟨⟨oi, hoi, q1, q2⟩, hl1⟩ (Heap.lt_size hoi) (Heap.lt_size hol) (fun h2 tk kp => ?_) (by rw [sz]; rw [List.length_cons, rr.length] at hz; exact hz)))
  have e2 : (u0 :: us).toArray.toList.drop 1 = us := by simp
  rw [e2]
  have I2 : Inv X pins σ H { s with heap := h2, toks := tk } := I.kept (t' := tk) fun b o z =>
    have nb : b ≠ s.heap.objs.size := Nat.ne_of_lt (Heap.lt_size z)
    kp b o nb (sb1.extBut b o nb (Heap.get?_push_of_some _ z))
  simp only [Nat.sub_self, Nat.not_lt_zero, if_false, Nat.sub_zero, List.take_length, List.drop_length]
  have lz : us.length ≤ sizeLine := Nat.le_trans (Nat.le_succ _) (by rw [List.length_cons, rr.length] at hz; exact hz)
  refine wpAny_bind (wpAny_newList (s := { s with heap := h2, toks := tk }) (wpAny_pure ?_) lz)
  have new : ObjOk X.prog X.w (upd H h2.objs.size (.lst xs)) (h2.push { cls := .type "list", data := .seq us.toArray }) h2.objs.size (.lst xs) := ⟨by rw [rr.length]; exact lz, us, 0, rr, Heap.get?_push_size _ rfl⟩
  have I3 := I2.laid (t' := tk) (fun b o z => Heap.get?_push_of_some _ z) (Nat.le_refl _) new
  have hp : H h2.objs.size = none := I2.hok.fresh (Nat.le_refl _)
  have z := h.run pins _ σ (upd H h2.objs.size (.lst xs)) [x, .ref h2.objs.size] [u0, .ref h2.objs.size] Q I3 (.cons rx (.cons rfl .nil)) (hw _ hp)
  rw [hm] at z
  exact z
/-- what it does with data -/
def starF (g : List D → S → Option S) : D → S → Option S := fun d s => match d with
  | .lst (x :: xs) => g [x, .lst xs] s
  | _ => none
theorem tg_star {K : PySem.W.Frag} {mg : Str → Option Value} {pr : List Nat} {gs : TGs} {fs : List D → S → Option S} (hs : TGs' K mg pr gs fs) : TGk K mg pr (gStar K gs) (starF fs) := fun v d sd s1 σ H W st r e Q q => by
  unfold starF at e
  split at e
  · cases r with
    | @lst a vs _ s rs =>
      cases rs with
      | @cons v0 vs0 _ _ r0 r1 =>
        refine ⟨a, v0, vs0, rfl, .inl (.inl (st.le _ _ s)), fun p hp => ?_⟩
        obtain ⟨g1, g2⟩ := st.newV hp (.lst vs0)
        have le := Le.upd (o := HO.lst vs0) (st.free hp)
        exact hs _ _ sd s1 σ _ _ g1 (.cons (r0.le le) (.cons (.lst upd_same (r1.le le)) .nil)) e _ fun σ' H' W' st' k' p' => q σ' H' W' st' (g2.trans k') p'
  · cases e
end Fli
namespace Fli
open PySem PySem.Spec PyProof.Rows L2
variable [HW]
/-! a try whose body raises nothing -/
theorem ps_quiet {X : Cx} {body : List Stmt} {h0 : ExceptHandler} {hds : List ExceptHandler} {pos : Pos} {t : TS} (hb : ∀ (pn : List (Addr × Obj)) (xe : Value → Shared → Prop), PassesOwn (model X.prog X.w) X.A X.env xe → PSs (X.tr pn xe) body t) : PS X (.Try body (h0 :: hds) [] [] pos) t := by
  constructor
  intro pins s σ H D I h
  have ok := I.ok
  refine wpAny_Try_except (wpAny_mono ((hb (X.pn ++ pins) _ PassesOwn.looking).run [] s σ H D (I.toTry _) h) (fun fl s1 z => ?_) fun _ _ he => he)
  cases fl with
  | next => obtain ⟨σ1, H1, J, q⟩ := z; exact wpAny_execs_nil ⟨σ1, H1, J.ofTry ok, q⟩
  | ret u => obtain ⟨v, σ1, H1, J, r, q⟩ := z; exact ⟨v, σ1, H1, J.ofTry ok, r, q⟩
  | brk => obtain ⟨σ1, H1, J, q⟩ := z; exact ⟨σ1, H1, J.ofTry ok, q⟩
  | cont => obtain ⟨σ1, H1, J, q⟩ := z; exact ⟨σ1, H1, J.ofTry ok, q⟩
theorem s_quiet {X : Cx} {pr : List Nat} {body : List Stmt} {h0 : ExceptHandler} {hds : List ExceptHandler} {pos : Pos} {m : MS} (hb : ∀ (pn : List (Addr × Obj)) (xe : Value → Shared → Prop), PassesOwn (model X.prog X.w) X.A X.env xe → SEs (X.tr pn xe) pr body m) : SE X pr (.Try body (h0 :: hds) [] [] pos) m := ps_quiet hb
/-! classes as values, classmethods -/
section
variable {X : Cx} {k n j : Nat} {N ps : List Str} {body : MS} {x c nm : Str} {p pos p2 apos : Pos} {e : Expr} {es : List Expr} {ms : M (List D)} {dd : List D}
theorem pe_makeL {C f : Addr} {fd : FuncData} {sp : Sp} {dvs : List V} {ds : List Value} {E : XK} {CX : CXT} {t : TA} {i : Nat} (Mx : Mk X.K C f) (F : FnOk X.prog X.w X.K X.mg X.base CX k f fd ps sp) (hr : Room (k + 1) X.A) (hN : X.N[i]? = some x) (hv : Vis X.env.scope x) (hb : Binds X.K fd ps ds) (hd : Vals dvs ds) (hx : Passes CX X E) (ha : PA X (e :: es) t)
    (hdb : (x == ("__debug__" : Str)) = false := by decide) (hcd : (x == ("__classdict__" : Str)) = false := by decide) (he : starEach (e :: es) X.env = (false, eval e X.env) :: starEach es X.env := by rfl) (hpl : (backTo pos (starEach es X.env)).any (·.1) = false := by rfl) :
    PE X (.Call (.Name x p) (e :: es) [] pos) (fun σ H Q => σ[i]? = some (some (.ref C)) ∧ tMake C sp dvs E t σ H Q) := by
  constructor
  rintro pins s σ H Q I ⟨hs, ht⟩
  have nm := (pe_var (pos := p) hN hv hdb hcd).run pins s σ H (fun v H1 => v = .ref C ∧ H1 = H) I ⟨.ref C, hs, rfl, rfl⟩
  refine wpAny_Call_Name_kw (thn nm fun u s1 z => ?_)
  obtain ⟨v, H1, I1, r1, rfl, rfl⟩ := z
  cases r1
  have fin := fun (us : List Value) (s2 : Shared) (z : ∃ vs H2, L2.Inv X pins σ H2 s2 ∧ Vals vs us ∧ ∀ x dx, H2 x = none → H2 dx = none → dx ≠ x → sp (.ref x :: (vs ++ dvs)) (upd (upd H2 dx (.own x)) x (.ins C dx [])) (fun v H3 => v = .non ∧ Q (.ref x) H3) E) =>
    let ⟨vs, H2, I2, r, q⟩ := z
    (⟨I2.kIn, run_make Mx F hr hb hd hx I2 r q⟩ : X.K.In s2.heap ∧ wpAny (model X.prog X.w) X.A (call (.ref C) us) (EP X pins σ Q) X.xe s2)
  exact PySem.W.callWith_K (h₀ := X.base) I.ok.mod.kin Mx.kp (thn (ha.run pos pins s1 σ _ _ I1 ht) fin) he hpl
def mkL (i n : Nat) (body : MS) (c : Str) (ms : M (List D)) (dd : List D) : M O := bindM (mVar i) fun d => match d with
  | .cls c' => if c' = c then mkO n body c ms fun xs => xs ++ dd else fun _ => none
  | _ => fun _ => none
theorem o_makeL (i : Nat) (mk : MakeX X.prog X.w X.K X.mg X.base k c N ps dd body) (hr : Room (k + 1) X.A) (hn : N.length = n) (hs : LA X (e :: es) ms) (hl : LenIs ms j) (hj : j + dd.length + 1 = ps.length) (hN : X.N[i]? = some x := by rfl) (hv : Vis X.env.scope x := by first | exact Or.inl rfl | exact Or.inr (Or.inl rfl) | exact Or.inr (Or.inr rfl))
    (hdb : (x == ("__debug__" : Str)) = false := by decide) (hcd : (x == ("__classdict__" : Str)) = false := by decide) (he : starEach (e :: es) X.env = (false, eval e X.env) :: starEach es X.env := by rfl) (hpl : (backTo pos (starEach es X.env)).any (·.1) = false := by rfl) :
    OE X (.Call (.Name x p) (e :: es) [] pos) (mkL i n body c ms dd) := by
  obtain ⟨C, f, fd, dvs, ds, hm, Mx, F, hb, hd, hdd⟩ := mk
  refine PE.imp (pe_makeL (E := E0) (i := i) Mx F hr hN hv hb hd pass0 hs hdb hcd he hpl) fun σ H Q ⟨sd, W, o, sd', st, em, q⟩ => ?_
  obtain ⟨d, s1, e1, em⟩ := bindM_some em
  obtain ⟨e0, rfl⟩ := mVar_some e1
  obtain ⟨v, hv', r⟩ := st.dat i d e0
  cases r with
  | @cls C' c' hm' =>
    dsimp only at em
    split at em
    · rename_i hc
      subst hc
      have z := hm'.symm.trans hm
      cases z
      refine ⟨hv', ?_⟩
      obtain ⟨xs, s2, e2, em⟩ := bindM_some em
      obtain ⟨e3, rfl⟩ := optM_some em
      refine ⟨_, W, xs, _, st, e2, fun vs H1 W1 st1 k1 r1 => ?_⟩
      have r2 := r1.app (hdd W1)
      refine mk_core hn hm st1 k1 r2 ?_ e3 q
      rw [r2.len, List.length_append, hl _ _ _ e2]; exact hj
    · cases em
  | _ => cases em
theorem e_cls {C : Addr} (hg : Gl X x) (hm : X.mg x = some (.ref C)) (hd : (x == ("__debug__" : Str)) = false := by decide) : DE X (.Name x pos) (retM (.cls x)) := e_glob hg hm (v := .ref C) rfl (fun _ => .cls hm) hd
/-- a classmethod -/
def CmX (P : Program) (w : World) (K : PySem.W.Frag) (mg : Str → Option Value) (base : Heap) (k : Nat) (c m : Str) (N ps : List Str) (body : MS) : Prop :=
  ∃ C mc p f fd, mg c = some (.ref C) ∧ ClX.CRead K C mc ∧ ClX.CMet K C mc m p f ∧ FnOk P w K mg base CX0 k f fd ps (spM K mg N ps [] body) ∧ Binds K fd ps []
theorem e_cmX {pl : Sem Bool} {po : Pos} (d : CmX X.prog X.w X.K X.mg X.base k c nm N ps body) (hr : Room k X.A) (hg : Gl X c) (hn : N.length = n) (hs : LA X (e :: es) ms) (hl : LenIs ms j) (hj : j + 1 = ps.length) (hd : (c == ("__debug__" : Str)) = false := by decide)
    (hst : starEach (e :: es) X.env = (false, eval e X.env) :: starEach es X.env := by rfl) (hpl : (backTo po (starEach es X.env)).any (·.1) = false := by rfl)
    (ht : eval (.Call (.Attribute (.Name c p2) nm apos) (e :: es) [] po) X.env = (do
              let ov ← eval (.Name c p2) X.env
              standAt apos.atName
              let (f, first) ← holding [ov] (getMethod ov nm pl)
              callWith po f first (backTo po (starEach (e :: es) X.env)) (backToKw po (keywordEach [] X.env))) := by rfl) :
    DE X (.Call (.Attribute (.Name c p2) nm apos) (e :: es) [] po) (bindM ms fun ds => optM (ownM n body (.cls c :: ds))) := by
  obtain ⟨C, mc, p, f, fd, hm, r, cm, F, hb⟩ := d
  refine PE.imp (ClX.pe_cmeth (E := E0) (pe_glob (v := .ref C) (u := .ref C) hg hm rfl hd) r cm (F.raw hb .nil) hr pass0 hs hst hpl ht) fun σ H Q ⟨sd, W, o, sd', st, em, q⟩ => ?_
  obtain ⟨ds, s1, e1, em⟩ := bindM_some em
  obtain ⟨e2, rfl⟩ := optM_some em
  refine ⟨rfl, sd, W, ds, sd', st, e1, fun vs H1 W1 st1 k1 r1 => ?_⟩
  show spM X.K X.mg N ps [] body ((V.ref C :: vs) ++ []) H1 Q E0
  rw [List.append_nil]
  refine t_own hn ?_ st1 (.cons (.cls hm) r1) e2 fun v H2 W2 st2 k2 r2 => q v H2 W2 st2 (k1.trans k2) r2
  rw [List.length_cons, hl _ _ _ e1]; exact hj
end
end Fli
set_option Elab.async false
set_option linter.all false
set_option maxRecDepth 100000
set_option maxHeartbeats 4000000
namespace Fli
open PySem PySem.Spec PyProof.Rows L2
variable [HW]

/-! what is walked: items, one behind another, whatever the iterator; b: some of them may be new pairs -/
structure Iot (b : Bool) (K : PySem.W.Frag) (mg : Str → Option Value) (W : Hp) (J : It) (items : List D) : Prop where
  go : ∀ i H, Le W H → i < items.length → J.go i H
  stop : ∀ i H, Le W H → items.length ≤ i → J.stop i H
  yld : ∀ i H x H' W', Le W W' → Le W' H → J.yld i H x H' → ∀ d, items[i]? = some d → (H' = H ∧ DR K mg W' x d) ∨ (b = true ∧ ∃ T vs es, x = .ref T ∧ H T = none ∧ H' = upd H T (.tup vs) ∧ d = .tup es ∧ DRs K mg W' vs es)
def tI (b : Bool) (K : PySem.W.Frag) (mg : Str → Option Value) (m : M (List D)) : TI := fun σ H R => ∃ sd W ds sd', St K mg sd σ H W ∧ m sd = some (ds, sd') ∧ ∀ J H' W', St K mg sd' σ H' W' → Kp sd σ H W sd' σ H' W' → Iot b K mg W' J ds → R J H'
abbrev IW (b : Bool) (X : Cx) (tg it : Expr) (m : M (List D)) : Prop := PI X tg it (tI b X.K X.mg m)
theorem pi_or {X : Cx} {tg it : Expr} {a b : TI} (h1 : PI X tg it a) (h2 : PI X tg it b) : PI X tg it (fun σ H R => a σ H R ∨ b σ H R) := ⟨fun pins s σ H R I h => h.elim (h1.run pins s σ H R I) (h2.run pins s σ H R I)⟩
theorem pi_imp {X : Cx} {tg it : Expr} {a b : TI} (h : PI X tg it a) (f : ∀ σ H R, b σ H R → a σ H R) : PI X tg it b := ⟨fun pins s σ H R I q => h.run pins s σ H R I (f σ H R q)⟩
section
variable {b : Bool} {K : PySem.W.Frag} {mg : Str → Option Value} {W : Hp}
theorem iot_lst {a : Addr} {vs : List V} {ds : List D} (s : W a = some (.lst vs)) (r : DRs K mg W vs ds) : Iot b K mg W (Itl K a) ds where
  go i H le hi := ⟨vs, vs[i]'(by rw [r.len]; exact hi), .inl (.inl (le _ _ s)), by simp⟩
  stop i H le hi := ⟨vs, .inl (.inl (le _ _ s)), by rw [r.len]; exact hi⟩
  yld i H x H' W' l1 l2 y d hd := by
    obtain ⟨rfl, y⟩ := y
    obtain ⟨d', e, rd⟩ := r.get' (y vs (.inl (.inl (l2 _ _ (l1 _ _ s)))))
    rw [hd] at e; cases e
    exact .inl ⟨rfl, rd.le l1⟩
theorem iot_tup {a : Addr} {vs : List V} {ds : List D} (s : SqF K W a vs) (r : DRs K mg W vs ds) : Iot b K mg W (Itt K a) ds where
  go i H le hi := ⟨vs, vs[i]'(by rw [r.len]; exact hi), st_le le s, by simp⟩
  stop i H le hi := ⟨vs, st_le le s, by rw [r.len]; exact hi⟩
  yld i H x H' W' l1 l2 y d hd := by
    obtain ⟨rfl, y⟩ := y
    obtain ⟨d', e, rd⟩ := r.get' (y vs (st_le (l1.trans l2) s))
    rw [hd] at e; cases e
    exact .inl ⟨rfl, rd.le l1⟩
theorem iot_str {z : Str} : Iot b K mg W (Its z) (z.cps.toList.map fun c => .str ⟨#[c]⟩) where
  go i H le hi := show i < z.cps.size by simpa using hi
  stop i H le hi := show z.cps.size ≤ i by simpa using hi
  yld i H x H' W' l1 l2 y d hd := by
    obtain ⟨rfl, c, hc, rfl⟩ := y
    rw [str_it hc] at hd; cases hd
    exact .inl ⟨rfl, .str _⟩
theorem iot_enT {a : Addr} {vs : List V} {ds : List D} (s : SqF K W a vs) (r : DRs K mg W vs ds) : Iot true K mg W (IteT K a) (enumD ds) where
  go i H le hi := ⟨vs, vs[i]'(by rw [r.len]; simpa [enumD] using hi), st_le le s, by simp⟩
  stop i H le hi := ⟨vs, st_le le s, by rw [r.len]; simpa [enumD] using hi⟩
  yld i H x H' W' l1 l2 y d hd := by
    obtain ⟨T, x, rfl, hT, rfl, y⟩ := y
    obtain ⟨d', e, rd⟩ := r.get' (y vs (st_le (l1.trans l2) s))
    rw [enumD_get e] at hd; cases hd
    exact .inr ⟨rfl, T, _, _, rfl, hT, rfl, rfl, .cons (.int _) (.cons (rd.le l1) .nil)⟩
theorem iot_enL {a : Addr} {vs : List V} {ds : List D} (s : W a = some (.lst vs)) (r : DRs K mg W vs ds) : Iot true K mg W (Ite K a) (enumD ds) where
  go i H le hi := ⟨vs, vs[i]'(by rw [r.len]; simpa [enumD] using hi), .inl (.inl (le _ _ s)), by simp⟩
  stop i H le hi := ⟨vs, .inl (.inl (le _ _ s)), by rw [r.len]; simpa [enumD] using hi⟩
  yld i H x H' W' l1 l2 y d hd := by
    obtain ⟨T, x, rfl, hT, rfl, y⟩ := y
    obtain ⟨d', e, rd⟩ := r.get' (y vs (.inl (.inl (l2 _ _ (l1 _ _ s)))))
    rw [enumD_get e] at hd; cases hd
    exact .inr ⟨rfl, T, _, _, rfl, hT, rfl, rfl, .cons (.int _) (.cons (rd.le l1) .nil)⟩
end
section
variable {X : Cx} {b : Bool} {tg e a : Expr} {m : M D} {ms : M (List D)} {p p3 tpos : Pos} {elts : List Expr} {kk : Nat}
theorem iw_seq (h : DE X e m) : IW b X tg e (bindM m fun d => optM (itD d)) := pi_imp (pi_or (pi_list (tg := tg) h) (pi_or (pi_tup (tg := tg) h) (pi_str (tg := tg) h))) fun σ H R ⟨sd, W, ds, sd', st, em, q⟩ => by
  obtain ⟨d, s1, e1, em⟩ := bindM_some em
  obtain ⟨e2, rfl⟩ := optM_some em
  cases d with
  | lst es =>
    cases e2
    refine .inl ⟨sd, W, _, sd', st, e1, fun v H1 W1 st1 k1 r1 => ?_⟩
    cases r1 with
    | @lst a vs _ sa ra => exact ⟨a, rfl, ⟨vs, .inl (.inl (st1.le _ _ sa))⟩, q _ H1 W1 st1 k1 (iot_lst sa ra)⟩
  | tup es =>
    cases e2
    refine .inr (.inl ⟨sd, W, _, sd', st, e1, fun v H1 W1 st1 k1 r1 => ?_⟩)
    cases r1 with
    | @tup a vs _ sa ra => exact ⟨a, rfl, ⟨vs, st_le st1.le sa⟩, q _ H1 W1 st1 k1 (iot_tup sa ra)⟩
  | str z =>
    cases e2
    refine .inr (.inr ⟨sd, W, _, sd', st, e1, fun v H1 W1 st1 k1 r1 => ?_⟩)
    cases r1
    exact ⟨z, rfl, q _ H1 W1 st1 k1 iot_str⟩
  | _ => cases e2
theorem iw_enum (hi : DE X e m) (hr : Gl X "enumerate") (hm : X.mg "enumerate" = none) (hs : starEach [e] X.env = [(false, eval e X.env)] := by rfl) (he : starEach (e :: []) X.env = (false, eval e X.env) :: starEach [] X.env := by rfl) :
    IW true X (.Tuple elts kk tpos) (.Call (.Name "enumerate" p) [e] [] p3) (bindM m fun d => optM ((seqLs d).map enumD)) := pi_imp (pi_or (pi_enumT (elts := elts) (kk := kk) (tpos := tpos) hr hm (pa_cons hi pa_nil he) hs) (pi_enum (elts := elts) (kk := kk) (tpos := tpos) hr hm (pa_cons hi pa_nil he) hs)) fun σ H R ⟨sd, W, ds, sd', st, em, q⟩ => by
  obtain ⟨d, s1, e1, em⟩ := bindM_some em
  obtain ⟨e2, rfl⟩ := optM_some em
  cases d with
  | tup es =>
    cases e2
    refine .inl ⟨sd, W, _, sd', st, e1, fun v H1 W1 st1 k1 r1 => ?_⟩
    cases r1 with
    | @tup a vs _ sa ra => exact ⟨a, vs, rfl, st_le st1.le sa, q _ H1 W1 st1 k1 (iot_enT sa ra)⟩
  | lst es =>
    cases e2
    refine .inr ⟨sd, W, _, sd', st, e1, fun v H1 W1 st1 k1 r1 => ?_⟩
    cases r1 with
    | @lst a vs _ sa ra => exact ⟨a, vs, rfl, .inl (.inl (st1.le _ _ sa)), q _ H1 W1 st1 k1 (iot_enL sa ra)⟩
  | _ => cases e2
end
/-! targets that take new pairs, too -/
def TGx (b : Bool) (K : PySem.W.Frag) (mg : Str → Option Value) (pr : List Nat) (g : TG) (f : D → S → Option S) : Prop := TGk K mg pr g f ∧ (b = true → ∀ T vs es sd s1 σ H W, H T = none → St K mg sd σ (upd H T (.tup vs)) W → DRs K mg W vs es → f (.tup es) sd = some s1 →
  ∀ Q : L2.St → Hp → Prop, (∀ σ1 H1 W1, St K mg s1 σ1 H1 W1 → Kp sd σ (upd H T (.tup vs)) W s1 σ1 H1 W1 → Pr pr σ σ1 → Q σ1 H1) → g (.ref T) σ (upd H T (.tup vs)) Q)
section
variable {K : PySem.W.Frag} {mg : Str → Option Value} {pr : List Nat} {g : TG} {gs : TGs} {f : D → S → Option S} {fs : List D → S → Option S}
theorem tgx_f (h : TGk K mg pr g f) : TGx false K mg pr g f := ⟨h, fun z => nomatch z⟩
theorem tgx_t {b : Bool} {n : Nat} (h : TGs' K mg pr gs fs) : TGx b K mg pr (gTup K n gs) (tupF n fs) := by
  refine ⟨tg_tup h, fun _ T vs es sd s1 σ H W hT st r e Q q => ?_⟩
  unfold tupF at e
  dsimp only at e
  split at e
  · rename_i hl
    exact ⟨T, vs, rfl, .inl (.inl upd_same), by rw [r.len]; exact hl, h vs es sd s1 σ _ W st r e Q q⟩
  · cases e
end
/-! a new object that is being filled -/
def Mono (R : Hp → HO → Prop) : Prop := (∀ W W' u, Le W W' → R W u → R W' u) ∧ ∀ W u, R W u → mt u
structure Fil (K : PySem.W.Frag) (mg : Str → Option Value) (R : Hp → HO → Prop) (p : Addr) (s0 : S) (σ0 : L2.St) (H0 W0 : Hp) (s : S) (σ : L2.St) (H W : Hp) : Prop where
  st : St K mg s σ H W
  kp : Kp s0 σ0 H0 W0 s σ H W
  w : W p = none
  no : ¬ Own s σ p
  ob : ∃ u, H p = some u ∧ R W u
section
variable {K : PySem.W.Frag} {mg : Str → Option Value} {R : Hp → HO → Prop} {p : Addr} {s0 s s' : S} {σ0 σ σ' : L2.St} {H0 W0 H W H' W' : Hp}
theorem Fil.step (mono : Mono R) (f : Fil K mg R p s0 σ0 H0 W0 s σ H W) (st : St K mg s' σ' H' W') (k : Kp s σ H W s' σ' H' W') : Fil K mg R p s0 σ0 H0 W0 s' σ' H' W' := by
  obtain ⟨u, hu, r⟩ := f.ob
  refine ⟨st, f.kp.trans k, k.new p f.w (by rw [hu]; simp) f.no, fun z => (k.own p z).elim f.no fun z => (by rw [hu] at z; cases z), u, k.keep p u hu f.no (mono.2 _ _ r).1, mono.1 _ _ _ k.le r⟩
theorem Fil.wiped {vs : List Nat} (f : Fil K mg R p s0 (L2.wipe σ0 vs) H0 W0 s σ H W) (h : L2.wipe σ vs = L2.wipe σ0 vs) : Fil K mg R p s0 (L2.wipe σ0 vs) H0 W0 (wipeS vs s) (L2.wipe σ0 vs) H W := by
  refine ⟨by rw [← h]; exact f.st.wipe, ⟨f.kp.le, f.kp.keep, f.kp.new, fun a z => f.kp.own a (by rw [← h] at z; exact z.wipe), f.kp.there⟩, f.w, fun z => f.no (by rw [← h] at z; exact z.wipe), f.ob⟩
theorem Fil.wiped1 {vs : List Nat} (f : Fil K mg R p s0 σ0 H0 W0 s σ H W) : Fil K mg R p s0 σ0 H0 W0 (wipeS vs s) (L2.wipe σ vs) H W :=
  ⟨f.st.wipe, ⟨f.kp.le, f.kp.keep, f.kp.new, fun a z => f.kp.own a z.wipe, f.kp.there⟩, f.w, fun z => f.no z.wipe, f.ob⟩
theorem Fil.put {R' : Hp → HO → Prop} {u : HO} (mono : Mono R) (f : Fil K mg R p s0 σ0 H0 W0 s σ H W) (h0 : H0 p = none) (r : R' W u) : Fil K mg R' p s0 σ0 H0 W0 s σ (upd H p u) W := by
  have np : ∀ u, H p = some u → mt u := fun u z => by
    obtain ⟨u0, hu, r0⟩ := f.ob
    rw [hu] at z; cases z
    exact mono.2 _ _ r0
  refine ⟨f.st.mut f.w f.no np, ⟨f.kp.le, fun a o h q => ?_, f.kp.new, f.kp.own, fun a h => ?_⟩, f.w, f.no, u, upd_same, r⟩
  · rw [upd_ne (ne_of_none h h0)]; exact f.kp.keep a o h q
  · by_cases z : a = p
    · rw [z, upd_same]; simp
    · rw [upd_ne z]; exact f.kp.there a h
/-- an item is handed out -/
theorem Fil.item {b : Bool} {J : It} {items : List D} {i : Nat} {x : V} {d : D} {pr : List Nat} {g : TG} {asg : D → S → Option S} {s1 : S} {W1 : Hp} (mono : Mono R) (f : Fil K mg R p s0 σ0 H0 W0 s σ H W) (io : Iot b K mg W1 J items) (le : Le W1 W) (y : J.yld i H x H') (hd : items[i]? = some d) (hg : TGx b K mg pr g asg) (e : asg d s = some s1)
    {Q : L2.St → Hp → Prop} (q : ∀ σ2 H2 W2, Le W W2 → Fil K mg R p s0 σ0 H0 W0 s1 σ2 H2 W2 → Pr pr σ σ2 → Q σ2 H2) : g x σ H' Q := by
  rcases io.yld i H x H' W le f.st.le y d hd with ⟨rfl, r⟩ | ⟨hb, T, vs, es, rfl, hT, rfl, rfl, r⟩
  · exact hg.1 x d s s1 σ _ W f.st r e Q fun σ2 H2 W2 st2 k2 p2 => q σ2 H2 W2 k2.le (f.step mono st2 k2) p2
  · obtain ⟨g1, g2⟩ := f.st.newO hT (.tup vs)
    exact hg.2 hb T vs es s s1 σ H W hT g1 r e Q fun σ2 H2 W2 st2 k2 p2 => q σ2 H2 W2 (g2.le.trans k2.le) ((f.step mono g1 g2).step mono st2 k2) p2
end
/-! two fors in one comprehension -/
def lc2L (vs : List Nat) (asg : D → S → Option S) (c : M Bool) (inn : M (List D)) (vs1 : List Nat) (asg1 : D → S → Option S) (c1 : M Bool) (elt : M D) : List D → List D → M (List D)
  | [], acc => fun s => some (acc, s)
  | d :: ds, acc => fun s => (asg d s).bind fun s1 => (c s1).bind fun p => match p.1 with
    | true => (inn p.2).bind fun q => (compL vs1 asg1 c1 elt q.1 acc (wipeS vs1 q.2)).bind fun r => lc2L vs asg c inn vs1 asg1 c1 elt ds r.1 (wipeS vs r.2)
    | false => lc2L vs asg c inn vs1 asg1 c1 elt ds acc (wipeS vs p.2)
def lc2M (mi : M (List D)) (vs : List Nat) (asg : D → S → Option S) (c : M Bool) (inn : M (List D)) (vs1 : List Nat) (asg1 : D → S → Option S) (c1 : M Bool) (elt : M D) : M O := fun s => (mi s).bind fun q => if noOwn vs q.2 = true then (lc2L vs asg c inn vs1 asg1 c1 elt q.1 [] (wipeS vs q.2)).map fun r => (.lst r.1, restS q.2 vs r.2) else none
def lstR (K : PySem.W.Frag) (mg : Str → Option Value) (acc : List D) : Hp → HO → Prop := fun W u => ∃ av, u = .lst av ∧ DRs K mg W av acc
theorem lstR_mono {K : PySem.W.Frag} {mg : Str → Option Value} {acc : List D} : Mono (lstR K mg acc) := ⟨fun W W' u le ⟨av, e, r⟩ => ⟨av, e, r.le le⟩, fun W u ⟨av, e, r⟩ => by rw [e]; exact mt_lst⟩
theorem wipe_sub {σ : L2.St} {vs vs1 : List Nat} (h : ∀ i ∈ vs1, i ∈ vs) : L2.wipe (L2.wipe σ vs1) vs = L2.wipe σ vs :=
  wipe_eq (fun j hj => by rw [wipe_get, if_neg fun z => hj (h j z)]) (by rw [wipe_length])
section
variable {K : PySem.W.Frag} {mg : Str → Option Value} {b b1 : Bool} {mi inn : M (List D)} {vs vs1 : List Nat} {g g1 : TG} {asg asg1 : D → S → Option S} {c c1 : M Bool} {el : M D}
theorem t_lc2 (hf : TGx b K mg [] g asg) (hw : TGw vs g) (hf1 : TGx b1 K mg [] g1 asg1) (hw1 : TGw vs1 g1) (hv : ∀ i ∈ vs1, i ∈ vs) {σ : L2.St} {H : Hp} {Q : VK} (h : tO K mg (lc2M mi vs asg c inn vs1 asg1 c1 el) σ H Q) :
    tLc2 (tI b K mg mi) g (tB K mg c) (tI b1 K mg inn) g1 (tB K mg c1) (tD K mg el) vs vs1 σ H Q := by
  obtain ⟨sd, W, o, sd', st, em, q⟩ := h
  simp only [lc2M, Option.bind_eq_some_iff] at em
  obtain ⟨⟨ds, s1⟩, e1, em⟩ := em
  dsimp only at em
  split at em
  case isFalse => cases em
  rename_i no
  simp only [Option.map_eq_some_iff] at em
  obtain ⟨r, e2, em⟩ := em
  cases em
  refine ⟨sd, W, ds, s1, st, e1, fun J H1 W1 st1 k1 io Dl hD => ?_⟩
  let Nx (i : Nat) (H' : Hp) : Prop := ∃ s' W' acc, Fil K mg (lstR K mg acc) Dl (wipeS vs s1) (L2.wipe σ vs) H1 W1 s' (L2.wipe σ vs) H' W' ∧ lc2L vs asg c inn vs1 asg1 c1 el (ds.drop i) acc s' = some r
  refine ⟨fun i m H' => Nx i H' ∧ m + i = ds.length, ⟨ds.length, ⟨wipeS vs s1, W1, [], ?_, e2⟩, rfl⟩, ?_⟩
  · obtain ⟨z1, z2⟩ := (st1.wipe (vs := vs)).newO hD (.lst [])
    exact ⟨z1, z2, st1.free hD, fun z => st1.notOwn hD z.wipe, _, upd_same, [], rfl, .nil⟩
  rintro i m H' ⟨⟨s', W', acc, f, em⟩, hm⟩
  have lW : Le W1 W' := f.kp.le
  by_cases hi : i < ds.length
  · refine .inr ⟨io.go i H' (lW.trans f.st.le) hi, Nx (i + 1), fun H2 n => ⟨m - 1, by omega, n, by omega⟩, ?_⟩
    intro x H2 y
    rw [List.drop_eq_getElem_cons hi] at em
    simp only [lc2L, Option.bind_eq_some_iff] at em
    obtain ⟨s2, a1, ⟨k, s3⟩, a2, em⟩ := em
    have ww : L2.wipe (L2.wipe σ vs) vs = L2.wipe σ vs := wipe_wipe
    have key := hw x (L2.wipe σ vs) H2 (fun σ2 H3 => tB K mg c σ2 H3 fun kb H4 => if kb = true then tI b1 K mg inn σ2 H4 fun J1 H5 => ∃ W1 : Nat → Nat → Hp → Prop, (∃ m, W1 0 m H5) ∧ ∀ j k H, W1 j k H →
      (J1.stop j H ∧ Nx (i + 1) H) ∨ (J1.go j H ∧ ∃ Nx1 : Hp → Prop, (∀ H', Nx1 H' → ∃ k', k' < k ∧ W1 (j + 1) k' H') ∧ ∀ x H', J1.yld j H x H' → g1 x (L2.wipe σ2 vs1) H' fun σ3 H5 => L2.wipe σ3 vs1 = L2.wipe σ2 vs1 ∧ tB K mg c1 σ3 H5 fun b H6 =>
        if b = true then tD K mg el σ3 H6 fun y H7 => ∃ acc, H7 Dl = some (.lst acc) ∧ acc.length < sizeLine ∧ Nx1 (upd H7 Dl (.lst (acc ++ [y]))) else Nx1 H6) else Nx (i + 1) H4)
      (f.item lstR_mono io lW y (List.getElem?_eq_getElem hi) hf a1 fun σ2 H3 W3 _ f2 _ hz => ?_)
    · rw [ww] at key; exact key
    rw [ww] at hz
    refine ⟨s2, W3, k, s3, f2.st, a2, fun H4 W4 st4 k4 => ?_⟩
    have f4 := f2.step lstR_mono st4 k4
    cases k with
    | false => exact iteF ⟨wipeS vs s3, W4, acc, f4.wiped hz, em⟩
    | true =>
      refine iteT ?_
      simp only [Option.bind_eq_some_iff] at em
      obtain ⟨⟨es, s5⟩, a3, r1, a4, em⟩ := em
      refine ⟨s3, W4, es, s5, f4.st, a3, fun J1 H5 W5 st5 k5 io1 => ?_⟩
      have f5 := f4.step lstR_mono st5 k5
      let In (j : Nat) (H' : Hp) : Prop := ∃ s' W' acc, Le W5 W' ∧ Fil K mg (lstR K mg acc) Dl (wipeS vs s1) (L2.wipe σ vs) H1 W1 s' (L2.wipe σ2 vs1) H' W' ∧ compL vs1 asg1 c1 el (es.drop j) acc s' = some r1
      refine ⟨fun j k H' => In j H' ∧ k + j = es.length, ⟨es.length, ⟨wipeS vs1 s5, W5, acc, Le.refl _, f5.wiped1, a4⟩, rfl⟩, ?_⟩
      rintro j kk H6 ⟨⟨s6, W6, acc6, le6, f6, em6⟩, hk⟩
      by_cases hj : j < es.length
      · refine .inr ⟨io1.go j H6 (le6.trans f6.st.le) hj, In (j + 1), fun H7 n => ⟨kk - 1, by omega, n, by omega⟩, ?_⟩
        intro x7 H7 y7
        rw [List.drop_eq_getElem_cons hj] at em6
        simp only [compL, Option.bind_eq_some_iff] at em6
        obtain ⟨s7, b1', ⟨k7, s8⟩, b2, em6⟩ := em6
        have w1 : L2.wipe (L2.wipe σ2 vs1) vs1 = L2.wipe σ2 vs1 := wipe_wipe
        have key1 := hw1 x7 (L2.wipe σ2 vs1) H7 (fun σ3 H5 => tB K mg c1 σ3 H5 fun b H6 => if b = true then tD K mg el σ3 H6 fun y H7 => ∃ acc, H7 Dl = some (.lst acc) ∧ acc.length < sizeLine ∧ In (j + 1) (upd H7 Dl (.lst (acc ++ [y]))) else In (j + 1) H6)
          (f6.item lstR_mono io1 le6 y7 (List.getElem?_eq_getElem hj) hf1 b1' fun σ3 H8 W8 l8 f8 _ hz1 => ?_)
        · rw [w1] at key1; exact key1
        rw [w1] at hz1
        refine ⟨s7, W8, k7, s8, f8.st, b2, fun H9 W9 st9 k9 => ?_⟩
        have f9 := f8.step lstR_mono st9 k9
        have back : ∀ {acc : List D} {s : S} {H W : Hp}, Fil K mg (lstR K mg acc) Dl (wipeS vs s1) (L2.wipe σ vs) H1 W1 s σ3 H W → Fil K mg (lstR K mg acc) Dl (wipeS vs s1) (L2.wipe σ vs) H1 W1 (wipeS vs1 s) (L2.wipe σ2 vs1) H W := fun f => by rw [← hz1]; exact f.wiped1
        have l9 : Le W5 W9 := (le6.trans l8).trans k9.le
        cases k7 with
        | false => exact iteF ⟨wipeS vs1 s8, W9, acc6, l9, back f9, em6⟩
        | true =>
          refine iteT ?_
          simp only [Option.bind_eq_some_iff] at em6
          obtain ⟨⟨y8, s10⟩, b3, em6⟩ := em6
          split at em6
          case isFalse => cases em6
          rename_i hsz
          refine ⟨s8, W9, y8, s10, f9.st, b3, fun v H10 W10 st10 k10 r10 => ?_⟩
          have f10 := f9.step lstR_mono st10 k10
          obtain ⟨u, hu, av, rfl, ra⟩ := f10.ob
          exact ⟨av, hu, by rw [ra.len]; exact hsz, wipeS vs1 s10, W10, acc6 ++ [y8], l9.trans k10.le, back (f10.put lstR_mono hD ⟨av ++ [v], rfl, ra.app (.cons r10 .nil)⟩), em6⟩
      · refine .inl ⟨io1.stop j H6 (le6.trans f6.st.le) (by omega), ?_⟩
        rw [List.drop_eq_nil_of_le (by omega)] at em6
        cases em6
        refine ⟨wipeS vs s6, W6, acc6, ?_, em⟩
        have hz6 : L2.wipe (L2.wipe σ2 vs1) vs = L2.wipe σ vs := (wipe_sub hv).trans hz
        exact f6.wiped hz6
  · rw [List.drop_eq_nil_of_le (by omega)] at em
    cases em
    refine .inl ⟨io.stop i H' (lW.trans f.st.le) (by omega), ?_⟩
    obtain ⟨u, hu, av, rfl, ra⟩ := f.ob
    obtain ⟨z1, z2⟩ := f.st.rest st1 f.kp.le no
    exact q Dl H' W' z1 (k1.trans ⟨f.kp.le, fun a o h q => f.kp.keep a o h fun z => q z.wipe, fun a h h' q => f.kp.new a h h' fun z => q z.wipe, fun a h => (f.kp.own a (z2 a h)).imp (fun z => z.wipe) id, f.kp.there⟩) ⟨f.w, av, hu, ra⟩ (fun z => f.no (z2 _ z)) (k1.fresh hD)
end
end Fli
set_option Elab.async false
set_option linter.all false
set_option maxRecDepth 100000
set_option maxHeartbeats 4000000
namespace Fli
open PySem PySem.Spec PyProof.Rows L2
variable [HW]

abbrev Blks (X : Cx) (scope : Scope) (P : Cx → Prop) : Prop := ∀ (s : Shared) (H : Hp) (C : Addr) (cl : List (Str × Addr)) (fp : List Addr), P (X.blk s H scope (compEnvC scope cl C X.env) fp)
section
variable {X : Cx} {b b1 : Bool} {elt tg it tg1 it1 : Expr} {ifs ifs1 : List Expr} {scope : Scope} {own : List (Str × Nat)} {vs vs1 : List Nat} {pos spos py : Pos} {g g1 : TG} {asg asg1 : D → S → Option S} {mi inn : M (List D)} {c c1 : M Bool} {el : M D} {y : Str} {i : Nat} {pr : List Nat}
theorem o_lc2 (hvs : own.map (fun x => x.2) = vs) (hc : X.calm = true) (hN : X.N.Nodup) (hi : IW b X tg it mi) (ok : BlkOk X.N X.env.scope scope own) (hv : ∀ i ∈ vs1, i ∈ vs)
    (hg : Blks X scope fun Y => PG Y tg g) (hf : TGx b X.K X.mg [] g asg) (hw : TGw vs g) (ht : Blks X scope fun Y => PTs Y ifs (tB X.K X.mg c))
    (hi1 : Blks X scope fun Y => PI Y tg1 it1 (tI b1 X.K X.mg inn)) (hg1 : Blks X scope fun Y => PG Y tg1 g1) (hf1 : TGx b1 X.K X.mg [] g1 asg1) (hw1 : TGw vs1 g1) (ht1 : Blks X scope fun Y => PTs Y ifs1 (tB X.K X.mg c1))
    (he : Blks X scope fun Y => PE Y elt (tD X.K X.mg el)) (hs : ∀ x, foldedSetIterable it X.env x = pure x := by intro _; rfl) (hs1 : ∀ env x, foldedSetIterable it1 env x = pure x := by intro _ _; rfl) :
    OE X (.ListComp elt [⟨tg, it, ifs, 0⟩, ⟨tg1, it1, ifs1, 0⟩] scope pos) (lc2M mi vs asg c inn vs1 asg1 c1 el) := by
  subst hvs
  exact PE.imp (pe_lc2 hc hN hi ok hv hg ht hi1 hg1 ht1 he hs hs1) fun σ H Q h => t_lc2 hf hw hf1 hw1 hv h
theorem s_setLc2 (hvs : own.map (fun x => x.2) = vs) (hc : X.calm = true) (hN : X.N.Nodup) (hi : IW b X tg it mi) (ok : BlkOk X.N X.env.scope scope own) (hv : ∀ i ∈ vs1, i ∈ vs)
    (hg : Blks X scope fun Y => PG Y tg g) (hf : TGx b X.K X.mg [] g asg) (hw : TGw vs g) (ht : Blks X scope fun Y => PTs Y ifs (tB X.K X.mg c))
    (hi1 : Blks X scope fun Y => PI Y tg1 it1 (tI b1 X.K X.mg inn)) (hg1 : Blks X scope fun Y => PG Y tg1 g1) (hf1 : TGx b1 X.K X.mg [] g1 asg1) (hw1 : TGw vs1 g1) (ht1 : Blks X scope fun Y => PTs Y ifs1 (tB X.K X.mg c1))
    (he : Blks X scope fun Y => PE Y elt (tD X.K X.mg el)) (hy : X.N[i]? = some y) (hyl : X.env.scope.names.lookup y = some .local) (hp : i ∉ pr) (hs : ∀ x, foldedSetIterable it X.env x = pure x := by intro _; rfl) (hs1 : ∀ env x, foldedSetIterable it1 env x = pure x := by intro _ _; rfl)
    (hsw : swapsWith (.ListComp elt [⟨tg, it, ifs, 0⟩, ⟨tg1, it1, ifs1, 0⟩] scope pos) (some (.Name y py)) spos.line X.env = pure true := by exact sw_true rfl rfl rfl (by decide +kernel)) :
    SE X pr (.Assign [.Name y py] (.ListComp elt [⟨tg, it, ifs, 0⟩, ⟨tg1, it1, ifs1, 0⟩] scope pos) spos) (asgO (lc2M mi vs asg c inn vs1 asg1 c1 el) i) := by
  subst hvs
  exact PS.imp (ps_setLc2 hc hN hy hyl hsw hi ok hv hg ht hi1 hg1 ht1 he hs hs1) fun E σ H h => t_lc2 hf hw hf1 hw1 hv (t_asgO hp h)
end
/-! dicts with ints and texts for keys -/
def keyD : D → Option Key
  | .int i => some (.inl i)
  | .str x => some (.inr x)
  | _ => none
section
variable {κ β : Type} [DecidableEq κ]
def valP (kvs : List (κ × β)) (k : κ) : Option β := (kvs.find? fun q => decide (q.1 = k)).map (·.2)
def putP (kvs : List (κ × β)) (k : κ) (y : β) : List (κ × β) := if (kvs.any fun q => decide (q.1 = k)) = true then kvs.map fun q => if q.1 = k then (q.1, y) else q else kvs ++ [(k, y)]
end
section
variable {K : PySem.W.Frag} {mg : Str → Option Value} {W : Hp}
theorem keyD_v {v : V} {d : D} {k : Key} (r : DR K mg W v d) (h : keyD d = some k) : v = kV k := by
  cases r <;> cases h <;> rfl
theorem DKs.len : ∀ {gs : List (Key × V)} {kvs : List (Key × D)}, DKs K mg W gs kvs → gs.length = kvs.length
  | _, _, .nil => rfl
  | _, _, .cons _ r => by simp [DKs.len r]
theorem DKs.any {k : Key} : ∀ {gs : List (Key × V)} {kvs : List (Key × D)}, DKs K mg W gs kvs → (gs.any fun q => decide (q.1 = k)) = kvs.any fun q => decide (q.1 = k)
  | _, _, .nil => rfl
  | _, _, .cons _ r => by simp [DKs.any r]
theorem DKs.val {k : Key} : ∀ {gs : List (Key × V)} {kvs : List (Key × D)}, DKs K mg W gs kvs → (∃ v d, valV gs k = some v ∧ valP kvs k = some d ∧ DR K mg W v d) ∨ (valV gs k = none ∧ valP kvs k = none)
  | _, _, .nil => .inr ⟨rfl, rfl⟩
  | _, _, @DKs.cons _ _ _ _ n v gs d fs h r => by
    by_cases e : n = k
    · exact .inl ⟨v, d, valV_pos (p := (n, v)) e, by unfold valP; simp [e], h⟩
    · have e1 : valV ((n, v) :: gs) k = valV gs k := valV_neg (p := (n, v)) e
      have e2 : valP ((n, d) :: fs) k = valP fs k := by unfold valP; simp [e]
      rw [e1, e2]; exact DKs.val r
theorem DKs.mapP {k : Key} {v : V} {d : D} (h : DR K mg W v d) : ∀ {gs : List (Key × V)} {kvs : List (Key × D)}, DKs K mg W gs kvs → DKs K mg W (gs.map fun q => if q.1 = k then (q.1, v) else q) (kvs.map fun q => if q.1 = k then (q.1, d) else q)
  | _, _, .nil => .nil
  | _, _, @DKs.cons _ _ _ _ n w gs e fs g r => by
    by_cases z : n = k
    · simp only [List.map_cons, if_pos z]; exact .cons h (DKs.mapP h r)
    · simp only [List.map_cons, if_neg z]; exact .cons g (DKs.mapP h r)
theorem DKs.app : ∀ {gs hs : List (Key × V)} {kvs ls : List (Key × D)}, DKs K mg W gs kvs → DKs K mg W hs ls → DKs K mg W (gs ++ hs) (kvs ++ ls)
  | _, _, _, _, .nil, s => s
  | _, _, _, _, .cons h r, s => .cons h (DKs.app r s)
theorem DKs.put {k : Key} {v : V} {d : D} {gs : List (Key × V)} {kvs : List (Key × D)} (r : DKs K mg W gs kvs) (h : DR K mg W v d) : DKs K mg W (putK gs k v) (putP kvs k d) := by
  unfold putK putP
  rw [r.any]
  split
  · exact DKs.mapP h r
  · exact r.app (.cons h .nil)
end
/-! {k: v for ..} -/
def dcL (vs : List Nat) (asg : D → S → Option S) (c : M Bool) (kx vx : M D) : List D → List (Key × D) → M (List (Key × D))
  | [], acc => fun s => some (acc, s)
  | d :: ds, acc => fun s => (asg d s).bind fun s1 => (c s1).bind fun p => match p.1 with
    | true => (kx p.2).bind fun q => (vx q.2).bind fun r => (keyD q.1).bind fun k => if acc.length < sizeLine then dcL vs asg c kx vx ds (putP acc k r.1) (wipeS vs r.2) else none
    | false => dcL vs asg c kx vx ds acc (wipeS vs p.2)
def dcM (mi : M (List D)) (vs : List Nat) (asg : D → S → Option S) (c : M Bool) (kx vx : M D) : M O := fun s => (mi s).bind fun q => if noOwn vs q.2 = true then (dcL vs asg c kx vx q.1 [] (wipeS vs q.2)).map fun r => (.dic r.1, restS q.2 vs r.2) else none
def dicR (K : PySem.W.Frag) (mg : Str → Option Value) (acc : List (Key × D)) : Hp → HO → Prop := fun W u => ∃ av, u = .dK av ∧ DKs K mg W av acc
theorem dicR_mono {K : PySem.W.Frag} {mg : Str → Option Value} {acc : List (Key × D)} : Mono (dicR K mg acc) := ⟨fun W W' u le ⟨av, e, r⟩ => ⟨av, e, r.le le⟩, fun W u ⟨av, e, r⟩ => by rw [e]; exact mt_dK⟩
section
variable {K : PySem.W.Frag} {mg : Str → Option Value} {b : Bool} {mi : M (List D)} {vs : List Nat} {g : TG} {asg : D → S → Option S} {c : M Bool} {kx vx : M D}
theorem t_dc (hf : TGx b K mg [] g asg) (hw : TGw vs g) {σ : L2.St} {H : Hp} {Q : VK} (h : tO K mg (dcM mi vs asg c kx vx) σ H Q) : tDc (tI b K mg mi) g (tB K mg c) (tD K mg kx) (tD K mg vx) vs σ H Q := by
  obtain ⟨sd, W, o, sd', st, em, q⟩ := h
  simp only [dcM, Option.bind_eq_some_iff] at em
  obtain ⟨⟨ds, s1⟩, e1, em⟩ := em
  dsimp only at em
  split at em
  case isFalse => cases em
  rename_i no
  simp only [Option.map_eq_some_iff] at em
  obtain ⟨r, e2, em⟩ := em
  cases em
  refine ⟨sd, W, ds, s1, st, e1, fun J H1 W1 st1 k1 io Dl hD => ?_⟩
  let Nx (i : Nat) (H' : Hp) : Prop := ∃ s' W' acc, Fil K mg (dicR K mg acc) Dl (wipeS vs s1) (L2.wipe σ vs) H1 W1 s' (L2.wipe σ vs) H' W' ∧ dcL vs asg c kx vx (ds.drop i) acc s' = some r
  refine ⟨fun i m H' => Nx i H' ∧ m + i = ds.length, ⟨ds.length, ⟨wipeS vs s1, W1, [], ?_, e2⟩, rfl⟩, ?_⟩
  · obtain ⟨z1, z2⟩ := (st1.wipe (vs := vs)).newO hD (.dK [])
    exact ⟨z1, z2, st1.free hD, fun z => st1.notOwn hD z.wipe, _, upd_same, [], rfl, .nil⟩
  rintro i m H' ⟨⟨s', W', acc, f, em⟩, hm⟩
  have lW : Le W1 W' := f.kp.le
  by_cases hi : i < ds.length
  · refine .inr ⟨io.go i H' (lW.trans f.st.le) hi, Nx (i + 1), fun H2 n => ⟨m - 1, by omega, n, by omega⟩, ?_⟩
    intro x H2 y
    rw [List.drop_eq_getElem_cons hi] at em
    simp only [dcL, Option.bind_eq_some_iff] at em
    obtain ⟨s2, a1, ⟨k, s3⟩, a2, em⟩ := em
    have ww : L2.wipe (L2.wipe σ vs) vs = L2.wipe σ vs := wipe_wipe
    have key := hw x (L2.wipe σ vs) H2 (fun σ2 H3 => tB K mg c σ2 H3 fun kb H4 => if kb = true then tD K mg kx σ2 H4 fun y H5 => tD K mg vx σ2 H5 fun z H6 => ∃ kvs k, y = kV k ∧ H6 Dl = some (.dK kvs) ∧ kvs.length < sizeLine ∧ Nx (i + 1) (upd H6 Dl (.dK (putK kvs k z))) else Nx (i + 1) H4)
      (f.item dicR_mono io lW y (List.getElem?_eq_getElem hi) hf a1 fun σ2 H3 W3 _ f2 _ hz => ?_)
    · rw [ww] at key; exact key
    rw [ww] at hz
    refine ⟨s2, W3, k, s3, f2.st, a2, fun H4 W4 st4 k4 => ?_⟩
    have f4 := f2.step dicR_mono st4 k4
    cases k with
    | false => exact iteF ⟨wipeS vs s3, W4, acc, f4.wiped hz, em⟩
    | true =>
      refine iteT ?_
      simp only [Option.bind_eq_some_iff] at em
      obtain ⟨⟨y5, s5⟩, a3, ⟨z6, s6⟩, a4, kk, a5, em⟩ := em
      split at em
      case isFalse => cases em
      rename_i hsz
      refine ⟨s3, W4, y5, s5, f4.st, a3, fun v H5 W5 st5 k5 r5 => ?_⟩
      have f5 := f4.step dicR_mono st5 k5
      refine ⟨s5, W5, z6, s6, f5.st, a4, fun v6 H6 W6 st6 k6 r6 => ?_⟩
      have f6 := f5.step dicR_mono st6 k6
      obtain ⟨u, hu, av, rfl, ra⟩ := f6.ob
      exact ⟨av, kk, keyD_v r5 a5, hu, by rw [ra.len]; exact hsz, wipeS vs s6, W6, _, (f6.put dicR_mono hD ⟨_, rfl, ra.put r6⟩).wiped hz, em⟩
  · rw [List.drop_eq_nil_of_le (by omega)] at em
    cases em
    refine .inl ⟨io.stop i H' (lW.trans f.st.le) (by omega), ?_⟩
    obtain ⟨u, hu, av, rfl, ra⟩ := f.ob
    obtain ⟨z1, z2⟩ := f.st.rest st1 f.kp.le no
    exact q Dl H' W' z1 (k1.trans ⟨f.kp.le, fun a o h q => f.kp.keep a o h fun z => q z.wipe, fun a h h' q => f.kp.new a h h' fun z => q z.wipe, fun a h => (f.kp.own a (z2 a h)).imp (fun z => z.wipe) id, f.kp.there⟩) ⟨f.w, av, hu, ra⟩ (fun z => f.no (z2 _ z)) (k1.fresh hD)
end
section
variable {X : Cx} {b : Bool} {kx vx tg it a e : Expr} {ifs : List Expr} {scope : Scope} {own : List (Str × Nat)} {vs : List Nat} {pos p : Pos} {g : TG} {asg : D → S → Option S} {mi : M (List D)} {c : M Bool} {mk mv ma mb : M D}
theorem o_dc (hvs : own.map (fun x => x.2) = vs) (hc : X.calm = true) (hN : X.N.Nodup) (hi : IW b X tg it mi) (ok : BlkOk X.N X.env.scope scope own) (hg : Blks X scope fun Y => PG Y tg g) (hf : TGx b X.K X.mg [] g asg) (hw : TGw vs g) (ht : Blks X scope fun Y => PTs Y ifs (tB X.K X.mg c))
    (hk : Blks X scope fun Y => PE Y kx (tD X.K X.mg mk)) (he : Blks X scope fun Y => PE Y vx (tD X.K X.mg mv)) (hs : ∀ x, foldedSetIterable it X.env x = pure x := by intro _; rfl) :
    OE X (.DictComp kx vx [⟨tg, it, ifs, 0⟩] scope pos) (dcM mi vs asg c mk mv) := by
  subst hvs
  exact PE.imp (pe_dc hc hN hi ok hg ht hk he hs) fun σ H Q h => t_dc hf hw h
/-- d[k], it is there -/
def dixD : D → D → Option D
  | .dic kvs, k => (keyD k).bind (valP kvs)
  | _, _ => none
theorem e_dix (hu : X.A.units + 1 < cLine) (ha : DE X a ma) (hb : DE X e mb) (hs : NoSl e := by exact fun _ _ => rfl) : DE X (.Subscript a e pos) (mBin dixD ma mb) := PE.imp (pe_dget hu ha hb hs) fun σ H Q ⟨sd, W, d, sd', st, em, q⟩ => by
  obtain ⟨x, s1, e1, em⟩ := bindM_some em
  obtain ⟨y, s2, e2, em⟩ := bindM_some em
  obtain ⟨e3, rfl⟩ := optM_some em
  refine ⟨sd, W, x, s1, st, e1, fun v H1 W1 st1 k1 r1 => ⟨s1, W1, y, sd', st1, e2, fun u H2 W2 st2 k2 r2 => ?_⟩⟩
  unfold dixD at e3
  split at e3
  · simp only [Option.bind_eq_some_iff] at e3
    obtain ⟨k, h1, h2⟩ := e3
    have hk := keyD_v r2 h1
    subst hk
    cases r1 with
    | @dic ad gs _ hw rg =>
      have g : Rd H2 ad (.dK gs) := hw.imp (fun z => st2.le _ _ (k2.le _ _ z)) fun ⟨o, z⟩ => ⟨o, st2.le _ _ (k2.le _ _ z)⟩
      rcases (rg.le k2.le).val (k := k) with ⟨v1, d1, z1, z2, r⟩ | ⟨_, z⟩
      · rw [h2] at z2; cases z2
        refine ⟨ad, v1, rfl, ?_, q _ H2 W2 st2 (k1.trans k2) r⟩
        rw [← z1]; exact .inl ⟨gs, k, g, rfl, rfl⟩
      · rw [h2] at z; cases z
  · cases e3
end
end Fli
set_option Elab.async false
set_option linter.all false
set_option maxRecDepth 100000
set_option maxHeartbeats 4000000
namespace Fli
open PySem PySem.Spec PyProof.Rows L2
variable [HW]

/-! plain defs called by keywords alone -/
def pickA (idx : List Nat) {α : Type} (ws : List α) : List α := idx.filterMap fun i => ws[i]?
theorem pick_vals {zs : List V} {ws : List Value} (r : Vals zs ws) : ∀ idx : List Nat, Vals (pickA idx zs) (pickA idx ws)
  | [] => .nil
  | i :: idx => by
    have ih := pick_vals r idx
    unfold pickA at ih ⊢
    rw [List.filterMap_cons, List.filterMap_cons]
    cases e : zs[i]? with
    | some v =>
      obtain ⟨u, hu, ru⟩ := r.get e
      rw [hu]; exact .cons ru ih
    | none =>
      have l := List.getElem?_eq_none_iff.mp e
      rw [List.getElem?_eq_none_iff.mpr (by rw [← r.length]; exact l)]; exact ih
theorem pick_drs {K : PySem.W.Frag} {mg : Str → Option Value} {W : Hp} {zs : List V} {ws : List D} (r : DRs K mg W zs ws) : ∀ idx : List Nat, DRs K mg W (pickA idx zs) (pickA idx ws)
  | [] => .nil
  | i :: idx => by
    have ih := pick_drs r idx
    unfold pickA at ih ⊢
    rw [List.filterMap_cons, List.filterMap_cons]
    cases e : zs[i]? with
    | some v =>
      obtain ⟨u, hu, ru⟩ := r.get' e
      rw [hu]; exact .cons ru ih
    | none =>
      have l := List.getElem?_eq_none_iff.mp e
      rw [List.getElem?_eq_none_iff.mpr (by rw [← r.len]; exact l)]; exact ih
def DefKX (P : Program) (w : World) (K : PySem.W.Frag) (mg : Str → Option Value) (base : Heap) (k : Nat) (x : Str) (N ps ks : List Str) (idx : List Nat) (body : MS) : Prop :=
  ∃ f fd, FnOk P w K mg base CX0 k f fd ps (spM K mg N ps [] body) ∧ mg x = some (.ref f) ∧ PySem.W.keepIn K (.ref f) = true ∧ L2.KBn K fd ps 0 ks (fun _ ws => pickA idx ws) (fun _ zs => pickA idx zs)
theorem FunX.defK {P : Program} {w : World} {K : PySem.W.Frag} {mg : Str → Option Value} {base : Heap} {x : Str} {st : Stmt} {k : Nat} {N ps ks : List Str} {idx : List Nat} {body : MS} (F : FunX K mg x st) (ok : ∀ {f fd}, Fun K x x st f fd → FnOk P w K mg base CX0 k f fd ps (spM K mg N ps [] body))
    (b : ∀ (kV doc pm : Value) (an : Option Addr) (cdv ct : Value) (ws : List Value), ws.length = ks.length → bindArgs (PySem.W.fnOf x x (defArgs st) (defBody st) (defScope st) .none kV doc pm an cdv ct) ⟨[], ks.zip ws⟩ = pure (ps.zip (pickA idx ws))) : DefKX P w K mg base k x N ps ks idx body := by
  obtain ⟨f, fd, F, hm⟩ := F
  have F0 := F
  obtain ⟨oc, od, kV, doc, pm, an, cdv, ct, osl, rfl, lk, hcd⟩ := F.ex
  refine ⟨f, _, ok F0, hm, F0.kp, ⟨fun s us ws _ h1 h2 => ?_, fun _ rz => pick_vals rz idx⟩⟩
  cases us with
  | nil => exact .of_eq (b kV doc pm an cdv ct ws h2)
  | cons _ _ => cases h1
section
variable {X : Cx} {k n : Nat} {N ps ks : List Str} {idx : List Nat} {body : MS} {x : Str} {p po : Pos} {kws : List Keyword} {ms : M (List D)}
theorem pe_kw0 {f : Addr} {fd : FuncData} {sp : Sp} {E : XK} {CX : CXT} {tk : TA} (F : FnOk X.prog X.w X.K X.mg X.base CX k f fd ps sp) (hr : Room k X.A) (hg : Gl X x) (hm : X.mg x = some (.ref f)) (hk : PySem.W.keepIn X.K (.ref f) = true) (hb : L2.KBn X.K fd ps 0 ks (fun _ ws => pickA idx ws) (fun _ zs => pickA idx zs)) (hx : Passes CX X E) (hw : PK X kws tk)
    (hall : (backToKw po (keywordEach kws X.env)).all (·.1.isSome) = true := by rfl) (hks : (backToKw po (keywordEach kws X.env)).filterMap (·.1) = ks := by rfl) (hdb : (x == ("__debug__" : Str)) = false := by decide)
    (hpl : ((backTo po (starEach [] X.env)).any (·.1) || (backToKw po (keywordEach kws X.env)).any (·.1.isNone)) = false := by rfl) :
    PE X (.Call (.Name x p) [] kws po) (fun σ H Q => tk σ H fun zs H2 => zs.length = ks.length ∧ sp (pickA idx zs) H2 Q E) := by
  constructor
  intro pins s σ H Q I h
  refine wpAny_Call_Name_kw (ld_glob I hg hm (PySem.W.callWith_KW0 (h₀ := X.base) I.ok.mod.kin hk hall (thn (hw.run po pins s σ H _ I h) ?_) hpl) hdb)
  rintro ws s2 ⟨zs, H2, I2, rz, l, q⟩
  rw [hks]
  exact ⟨I2.kIn, run_fnN (us := []) (vs := []) F hr hb hx I2 .nil rz rfl l q⟩
theorem e_kwX (d : DefKX X.prog X.w X.K X.mg X.base k x N ps ks idx body) (hr : Room k X.A) (hg : Gl X x) (hn : N.length = n) (hs : LK X kws ms) (hl : LenIs ms ks.length) (hj : ∀ xs : List D, xs.length = ks.length → (pickA idx xs).length = ps.length)
    (hall : (backToKw po (keywordEach kws X.env)).all (·.1.isSome) = true := by rfl) (hks : (backToKw po (keywordEach kws X.env)).filterMap (·.1) = ks := by rfl) (hdb : (x == ("__debug__" : Str)) = false := by decide)
    (hpl : ((backTo po (starEach [] X.env)).any (·.1) || (backToKw po (keywordEach kws X.env)).any (·.1.isNone)) = false := by rfl) :
    DE X (.Call (.Name x p) [] kws po) (bindM ms fun ds => optM (ownM n body (pickA idx ds))) := by
  obtain ⟨f, fd, F, hm, hk, hb⟩ := d
  refine PE.imp (pe_kw0 (E := E0) F hr hg hm hk hb pass0 hs hall hks hdb hpl) fun σ H Q ⟨sd, W, o, sd', st, em, q⟩ => ?_
  obtain ⟨ds, s1, e1, em⟩ := bindM_some em
  obtain ⟨e2, rfl⟩ := optM_some em
  refine ⟨sd, W, ds, sd', st, e1, fun vs H1 W1 st1 k1 r1 => ⟨by rw [r1.len]; exact hl _ _ _ e1, ?_⟩⟩
  exact t_own hn (hj _ (hl _ _ _ e1)) st1 (pick_drs r1 idx) e2 fun v H2 W2 st2 k2 r2 => q v H2 W2 st2 (k1.trans k2) r2
end
/-! a classmethod, by what the top has left -/
def CmF (K : PySem.W.Frag) (C : Addr) (m q : Str) (st : Stmt) : Prop := ∃ mc p f fd, ClX.CRead K C mc ∧ ClX.CMet K C mc m p f ∧ Fun K m q st f fd
theorem cmF_mk {K : PySem.W.Frag} {m q : Str} {st : Stmt} {C p f : Addr} {rest : List Value} {oc : Value} {od an : Option Addr} {osl : Array (Option Value)} {kV doc pm cdv ct : Value} (rd : PySem.W.readsIn K C (.type "type") = true) (ga : PySem.W.specialIn K (.ref C) "__getattribute__" = some (some (.builtin "type.__getattribute__")))
    (a : PySem.W.findCls K (.ref C) (.type "type") m = some (.get (.builtin "classmethod.__get__") (.ref p) .none (.ref C))) (rc : PySem.W.recIn K p "classmethod" = some (.ref f :: rest)) (i : PySem.W.fnIn K f = true)
    (l : K.lookup f = some ⟨oc, od, .func (PySem.W.fnOf m q (defArgs st) (defBody st) (defScope st) .none kV doc pm an cdv ct), osl⟩) (cd : PySem.W.codeIn K cdv q = true) (k : PySem.W.keepIn K (.ref f) = true) : CmF K C m q st :=
  ⟨.type "type", p, f, _, ⟨rd, ga⟩, ⟨a, ⟨rest, rc⟩, i⟩, fun_mk l cd k⟩
theorem CmF.cmX {P : Program} {w : World} {K : PySem.W.Frag} {mg : Str → Option Value} {base : Heap} {c m q : Str} {C : Addr} {st : Stmt} {k : Nat} {N ps : List Str} {body : MS} (F : CmF K C m q st) (hm : mg c = some (.ref C)) (ok : ∀ {f fd}, Fun K m q st f fd → FnOk P w K mg base CX0 k f fd ps (spM K mg N ps [] body)) (b : BindsLike m q st ps) : CmX P w K mg base k c m N ps body := by
  obtain ⟨mc, p, f, fd, r, cm, F⟩ := F
  exact ⟨C, mc, p, f, fd, hm, r, cm, ok F, F.binds b⟩
/-! targets of any shape keep to their slots -/
def TGm (vs : List Nat) (g : TG) : Prop := ∀ (x : V) (σ : L2.St) (H : Hp) (Q Q' : L2.St → Hp → Prop), (∀ σ2 H2, L2.wipe σ2 vs = L2.wipe σ vs → Q σ2 H2 → Q' σ2 H2) → g x σ H Q → g x σ H Q'
def TGsm (vs : List Nat) (g : TGs) : Prop := ∀ (x : List V) (σ : L2.St) (H : Hp) (Q Q' : L2.St → Hp → Prop), (∀ σ2 H2, L2.wipe σ2 vs = L2.wipe σ vs → Q σ2 H2 → Q' σ2 H2) → g x σ H Q → g x σ H Q'
theorem TGm.w {vs : List Nat} {g : TG} (h : TGm vs g) : TGw vs g := fun x σ H Q q => h x σ H _ _ (fun _ _ e q => ⟨e, q e⟩) q
theorem tm_name {vs : List Nat} {i : Nat} (h : i ∈ vs) : TGm vs (gName i) := fun x σ H Q Q' f q => f _ _ (wipe_set h) q
theorem tm_nil {vs : List Nat} : TGsm vs gNil := fun x σ H Q Q' f q => ⟨q.1, f _ _ rfl q.2⟩
theorem tm_cons {vs : List Nat} {g : TG} {gs : TGs} (h : TGm vs g) (hs : TGsm vs gs) : TGsm vs (gCons g gs) := fun x σ H Q Q' f ⟨v, r, e, z⟩ => ⟨v, r, e, h v σ H _ _ (fun σ1 H1 e1 q => hs r σ1 H1 _ _ (fun σ2 H2 e2 q => f σ2 H2 (e2.trans e1) q) q) z⟩
theorem tm_tup {K : PySem.W.Frag} {vs : List Nat} {n : Nat} {gs : TGs} (h : TGsm vs gs) : TGm vs (gTup K n gs) := fun x σ H Q Q' f ⟨a, xs, e, hq, hl, z⟩ => ⟨a, xs, e, hq, hl, h xs σ H _ _ f z⟩
end Fli
namespace Fli
open PySem PySem.Spec PyProof.Rows L2
variable [HW]
/-! a classmethod called by keywords alone -/
section
variable {X : Cx} {k n : Nat} {N ps ks : List Str} {idx : List Nat} {body : MS} {c nm : Str} {p2 apos po : Pos} {kws : List Keyword} {ms : M (List D)} {pl : Sem Bool}
end
end Fli
set_option Elab.async false
set_option linter.all false
set_option maxRecDepth 100000
set_option maxHeartbeats 4000000
namespace Fli
open PySem PySem.Spec PyProof.Rows L2
variable [HW]

/-! keys that are tuples -/
abbrev Ent := List Key × Addr × V
def valX (gs : List Ent) (k : List Key) : Option V := (gs.find? fun q => decide (q.1 = k)).map (·.2.2)
def putX (gs : List Ent) (k : List Key) (b : Addr) (v : V) : List Ent := if (gs.any fun q => decide (q.1 = k)) = true then gs.map fun q => if q.1 = k then (q.1, q.2.1, v) else q else gs ++ [(k, b, v)]
section
variable {K : PySem.W.Frag} {mg : Str → Option Value} {W : Hp}
theorem DTs.len : ∀ {gs : List Ent} {kvs : List (List Key × D)}, DTs K mg W gs kvs → gs.length = kvs.length
  | _, _, .nil => rfl
  | _, _, .cons _ _ r => by simp [DTs.len r]
theorem DTs.keys : ∀ {gs : List Ent} {kvs : List (List Key × D)}, DTs K mg W gs kvs → ∀ p ∈ gs, SqF K W p.2.1 (p.1.map kV)
  | _, _, .nil, p, h => nomatch h
  | _, _, .cons s _ r, p, h => by
    rcases List.mem_cons.mp h with e | h
    · subst e; exact s
    · exact DTs.keys r p h
theorem DTs.any {k : List Key} : ∀ {gs : List Ent} {kvs : List (List Key × D)}, DTs K mg W gs kvs → (gs.any fun q => decide (q.1 = k)) = kvs.any fun q => decide (q.1 = k)
  | _, _, .nil => rfl
  | _, _, .cons _ _ r => by simp [DTs.any r]
theorem DTs.val {k : List Key} : ∀ {gs : List Ent} {kvs : List (List Key × D)}, DTs K mg W gs kvs → (∃ v d, valX gs k = some v ∧ valP kvs k = some d ∧ DR K mg W v d) ∨ (valX gs k = none ∧ valP kvs k = none)
  | _, _, .nil => .inr ⟨rfl, rfl⟩
  | _, _, @DTs.cons _ _ _ _ n b v gs d fs s h r => by
    by_cases e : n = k
    · exact .inl ⟨v, d, by unfold valX; simp [e], by unfold valP; simp [e], h⟩
    · have e1 : valX ((n, b, v) :: gs) k = valX gs k := by unfold valX; simp [e]
      have e2 : valP ((n, d) :: fs) k = valP fs k := by unfold valP; simp [e]
      rw [e1, e2]; exact DTs.val r
theorem DTs.mapP {k : List Key} {v : V} {d : D} (h : DR K mg W v d) : ∀ {gs : List Ent} {kvs : List (List Key × D)}, DTs K mg W gs kvs → DTs K mg W (gs.map fun q => if q.1 = k then (q.1, q.2.1, v) else q) (kvs.map fun q => if q.1 = k then (q.1, d) else q)
  | _, _, .nil => .nil
  | _, _, @DTs.cons _ _ _ _ n b w gs e fs s g r => by
    by_cases z : n = k
    · simp only [List.map_cons, if_pos z]; exact .cons s h (DTs.mapP h r)
    · simp only [List.map_cons, if_neg z]; exact .cons s g (DTs.mapP h r)
theorem DTs.app : ∀ {gs hs : List Ent} {kvs ls : List (List Key × D)}, DTs K mg W gs kvs → DTs K mg W hs ls → DTs K mg W (gs ++ hs) (kvs ++ ls)
  | _, _, _, _, .nil, s => s
  | _, _, _, _, .cons s h r, t => .cons s h (DTs.app r t)
theorem DTs.put {k : List Key} {b : Addr} {v : V} {d : D} {gs : List Ent} {kvs : List (List Key × D)} (r : DTs K mg W gs kvs) (s : SqF K W b (k.map kV)) (h : DR K mg W v d) : DTs K mg W (putX gs k b v) (putP kvs k d) := by
  unfold putX putP
  rw [r.any]
  split
  · exact DTs.mapP h r
  · exact r.app (.cons s h .nil)
end
/-! entries, as they stand in memory -/
abbrev XR : List Ent → List (List Key × Addr × Value) → Prop := Paired fun (p : List Key × Addr × V) (q : List Key × Addr × Value) => p.1 = q.1 ∧ p.2.1 = q.2.1 ∧ RelV p.2.2 q.2.2
theorem XR.val {gs : List Ent} {zs : List (List Key × Addr × Value)} (r : XR gs zs) (k : List Key) : RelO (valX gs k) ((atKey zs k).map (·.2)) := by
  induction r with
  | nil => exact True.intro
  | @cons p q ps qs h t ih =>
    obtain ⟨p1, p2, p3⟩ := p
    obtain ⟨q1, q2, q3⟩ := q
    obtain ⟨h1, h2, h3⟩ := h
    simp only at h1 h2 h3
    subst h1 h2
    by_cases e : p1 = k
    · have a : valX ((p1, p2, p3) :: ps) k = some p3 := by unfold valX; simp [e]
      have b : atKey ((p1, p2, q3) :: qs) k = some (p2, q3) := by unfold atKey; simp [e]
      rw [a, b]; exact h3
    · have a : valX ((p1, p2, p3) :: ps) k = valX ps k := by unfold valX; simp [e]
      have b : atKey ((p1, p2, q3) :: qs) k = atKey qs k := by unfold atKey; simp [e]
      rw [a, b]; exact ih
theorem valX_any : ∀ {gs : List Ent} {k : List Key}, (gs.any fun q => decide (q.1 = k)) = (valX gs k).isSome
  | [], _ => rfl
  | p :: ps, k => by
    by_cases e : p.1 = k
    · unfold valX; simp [e]
    · have ih := valX_any (gs := ps) (k := k)
      unfold valX at ih ⊢
      simp only [List.any_cons, List.find?_cons, e, decide_false, Bool.false_or]
      exact ih
theorem XR.repl {gs : List Ent} {zs : List (List Key × Addr × Value)} (r : XR gs zs) (k : List Key) {y : V} {u : Value} (ry : RelV y u) : XR (gs.map fun q => if q.1 = k then (q.1, q.2.1, y) else q) (zs.map (putAt k u)) := by
  induction r with
  | nil => exact .nil
  | @cons p q ps qs h t ih =>
    refine .cons ?_ ih
    unfold putAt
    dsimp only
    by_cases e : p.1 = k
    · rw [if_pos e, if_pos (h.1.symm.trans e)]; exact ⟨h.1, h.2.1, ry⟩
    · rw [if_neg e, if_neg fun z => e (h.1.trans z)]; exact h
theorem XR.put {gs : List Ent} {zs : List (List Key × Addr × Value)} (r : XR gs zs) (k : List Key) {b : Addr} {y : V} {u : Value} (ry : RelV y u) : XR (putX gs k b y) (storedH zs k b u) := by
  have e : (gs.any fun q => decide (q.1 = k)) = (atKey zs k).isSome := by
    rw [valX_any, (r.val k).isSome_eq, Option.isSome_map]
  unfold putX storedH
  rw [e]
  by_cases q : (atKey zs k).isSome = true
  · rw [if_pos q, if_pos q]; exact r.repl k ry
  · rw [if_neg q, if_neg q]; exact Paired.snoc r ⟨rfl, rfl, ry⟩
/-- keys that stand where they should -/
def KeysOk (K : PySem.W.Frag) (H : Hp) (gs : List Ent) : Prop := ∀ p ∈ gs, SqT K H p.2.1 (p.1.map kV)
section
variable {X : Cx} {pins : List (Addr × Obj)} {σ : L2.St} {H : Hp} {s : Shared} {a b : Addr} {gs : List Ent} {k : List Key} {v : V} {u : Value}
end
def XPut (K : PySem.W.Frag) (H : Hp) (a : Addr) (y v : V) (H' : Hp) : Prop := ∃ gs k b, H a = some (DX a gs) ∧ KeysOk K H gs ∧ y = .ref b ∧ SqT K H b (k.map kV) ∧ gs.length < sizeLine ∧ H' = upd H a (DX a (putX gs k b v))
section
variable {X : Cx} {pins : List (Addr × Obj)} {σ : L2.St} {H : Hp} {s : Shared} {a : Addr} {y v : V} {u r : Value} {o : Option V} {A : Around} {E : Value → Shared → Prop}
theorem XPut.keys {H' : Hp} (g : XPut X.K H a y v H') : (∃ gs, H a = some (DX a gs)) := let ⟨gs, _, _, e, _⟩ := g; ⟨gs, e⟩
end
/-! rules of expressions -/
section
variable {X : Cx} {o i e value : Expr} {pos pos' tpos apos cpos : Pos} {td ty tv : TE}
end
end Fli
set_option Elab.async false
set_option linter.all false
set_option maxRecDepth 100000
set_option maxHeartbeats 4000000
namespace Fli
open PySem PySem.Spec PyProof.Rows L2
variable [HW]
section
variable {K : PySem.W.Frag} {mg : Str → Option Value} {sd s' : S} {σ : L2.St} {H H' W W' : Hp}
end
/-! reading -/
section
variable {K : PySem.W.Frag} {mg : Str → Option Value}
end
section
variable {X : Cx} {a e : Expr} {pos p2 apos cpos : Pos} {x : Str} {ma mb m : M D} {pr : List Nat}
end
/-! while -/
end Fli
set_option Elab.async false
set_option linter.all false
set_option maxRecDepth 100000
set_option maxHeartbeats 4000000
namespace Fli
open PySem PySem.Spec PyProof.Rows L2
variable [HW]
section
variable {X : Cx}
end
/-! its mirror -/
section
variable {K : PySem.W.Frag} {mg : Str → Option Value} {b : Bool} {mi : M (List D)} {vs : List Nat} {g : TG} {asg : D → S → Option S} {c : M Bool} {kx vx : M D}
end
section
variable {X : Cx} {b : Bool} {kx vx tg it : Expr} {ifs : List Expr} {scope : Scope} {own : List (Str × Nat)} {vs : List Nat} {pos : Pos} {g : TG} {asg : D → S → Option S} {mi : M (List D)} {c : M Bool} {mk mv : M D}
end
end Fli
set_option Elab.async false
set_option linter.all false
set_option maxRecDepth 100000
set_option maxHeartbeats 4000000
namespace Fli
open PySem PySem.Spec PyProof.Rows L2
variable [HW]
/-! a dict of lists, none of them seen by anyone else, made and filled in one def -/
abbrev KL := List (List Key × List D)
inductive HL (K : PySem.W.Frag) (mg : Str → Option Value) (s : S) (σ : L2.St) (H W H0 : Hp) : List Ent → List Addr → KL → Prop
  | nil : HL K mg s σ H W H0 [] [] []
  | cons {k : List Key} {b p : Addr} {vs : List V} {ds : List D} {gs : List Ent} {ps : List Addr} {kvs : KL} : SqF K W b (k.map kV) → W p = none → ¬ Own s σ p → H0 p = none → H p = some (.lst vs) → DRs K mg W vs ds → HL K mg s σ H W H0 gs ps kvs → HL K mg s σ H W H0 ((k, b, .ref p) :: gs) (p :: ps) ((k, ds) :: kvs)
structure HD (K : PySem.W.Frag) (mg : Str → Option Value) (a : Addr) (s0 : S) (σ0 : L2.St) (H0 W0 : Hp) (s : S) (σ : L2.St) (H W : Hp) (kvs : KL) : Prop where
  st : St K mg s σ H W
  kp : Kp s0 σ0 H0 W0 s σ H W
  w : W a = none
  no : ¬ Own s σ a
  nk : (kvs.map (·.1)).Nodup
  ob : ∃ gs ps, H a = some (DX a gs) ∧ ps.Nodup ∧ HL K mg s σ H W H0 gs ps kvs
section
variable {K : PySem.W.Frag} {mg : Str → Option Value} {a : Addr} {s0 s s' : S} {σ0 σ σ' : L2.St} {H0 W0 H W H' W' : Hp} {kvs : KL} {gs : List Ent} {ps : List Addr}
theorem HL.step (st : St K mg s' σ' H' W') (k : Kp s σ H W s' σ' H' W') (h : HL K mg s σ H W H0 gs ps kvs) : HL K mg s' σ' H' W' H0 gs ps kvs := by
  induction h with
  | nil => exact .nil
  | cons h1 h2 h3 h4 h5 h6 _ ih =>
    refine .cons (sf_le k.le h1) (k.new _ h2 (by rw [h5]; simp) h3) (fun z => (k.own _ z).elim h3 fun z => by rw [h5] at z; cases z) h4 (k.keep _ _ h5 h3 rfl) (h6.le k.le) ih
theorem HL.at (h : HL K mg s σ H W H0 gs ps kvs) : ∀ p ∈ ps, ∃ vs, H p = some (.lst vs) := by
  induction h with
  | nil => intro p hp; cases hp
  | cons h1 h2 h3 h4 h5 h6 _ ih =>
    intro p hp
    rcases List.mem_cons.mp hp with e | hp
    · subst e; exact ⟨_, h5⟩
    · exact ih p hp
theorem HL.keys (h : HL K mg s σ H W H0 gs ps kvs) : ∀ p ∈ gs, SqF K W p.2.1 (p.1.map kV) := by
  induction h with
  | nil => intro p hp; cases hp
  | cons h1 h2 h3 h4 h5 h6 _ ih =>
    intro p hp
    rcases List.mem_cons.mp hp with e | hp
    · subst e; exact h1
    · exact ih p hp
/-- another object changes -/
theorem HL.other {x : Addr} {o : HO} (hx : x ∉ ps) (h : HL K mg s σ H W H0 gs ps kvs) : HL K mg s σ (upd H x o) W H0 gs ps kvs := by
  induction h with
  | nil => exact .nil
  | @cons k b p vs ds gs ps kvs h1 h2 h3 h4 h5 h6 _ ih =>
    have n1 : p ≠ x := fun z => hx (by simp [z])
    exact .cons h1 h2 h3 h4 (by rw [upd_ne n1]; exact h5) h6 (ih fun z => hx (by simp [z]))
theorem HD.step (f : HD K mg a s0 σ0 H0 W0 s σ H W kvs) (st : St K mg s' σ' H' W') (k : Kp s σ H W s' σ' H' W') : HD K mg a s0 σ0 H0 W0 s' σ' H' W' kvs := by
  obtain ⟨gs, ps, h1, h2, h3⟩ := f.ob
  exact ⟨st, f.kp.trans k, k.new a f.w (by rw [h1]; simp) f.no, fun z => (k.own a z).elim f.no fun z => (by rw [h1] at z; cases z), f.nk, gs, ps, k.keep a _ h1 f.no rfl, h2, h3.step st k⟩
theorem HL.wipe {vs : List Nat} {σ1 : L2.St} (h : HL K mg s σ H W H0 gs ps kvs) (e : L2.wipe σ vs = σ1) : HL K mg (wipeS vs s) σ1 H W H0 gs ps kvs := by
  subst e
  induction h with
  | nil => exact .nil
  | cons h1 h2 h3 h4 h5 h6 _ ih => exact .cons h1 h2 (fun z => h3 z.wipe) h4 h5 h6 ih
theorem HD.wiped {vs : List Nat} (f : HD K mg a s0 (L2.wipe σ0 vs) H0 W0 s σ H W kvs) (h : L2.wipe σ vs = L2.wipe σ0 vs) : HD K mg a s0 (L2.wipe σ0 vs) H0 W0 (wipeS vs s) (L2.wipe σ0 vs) H W kvs := by
  obtain ⟨gs, ps, h1, h2, h3⟩ := f.ob
  refine ⟨by rw [← h]; exact f.st.wipe, ⟨f.kp.le, f.kp.keep, f.kp.new, fun a z => f.kp.own a (by rw [← h] at z; exact z.wipe), f.kp.there⟩, f.w, fun z => f.no (by rw [← h] at z; exact z.wipe), f.nk, gs, ps, h1, h2, h3.wipe h⟩
theorem HD.item {b : Bool} {J : It} {items : List D} {i : Nat} {x : V} {d : D} {pr : List Nat} {g : TG} {asg : D → S → Option S} {s1 : S} {W1 : Hp} (f : HD K mg a s0 σ0 H0 W0 s σ H W kvs) (io : Iot b K mg W1 J items) (le : Le W1 W) (y : J.yld i H x H') (hd : items[i]? = some d) (hg : TGx b K mg pr g asg) (e : asg d s = some s1)
    {Q : L2.St → Hp → Prop} (q : ∀ σ2 H2 W2, Le W W2 → HD K mg a s0 σ0 H0 W0 s1 σ2 H2 W2 kvs → Pr pr σ σ2 → Q σ2 H2) : g x σ H' Q := by
  rcases io.yld i H x H' W le f.st.le y d hd with ⟨rfl, r⟩ | ⟨hb, T, vs, es, rfl, hT, rfl, rfl, r⟩
  · exact hg.1 x d s s1 σ _ W f.st r e Q fun σ2 H2 W2 st2 k2 p2 => q σ2 H2 W2 k2.le (f.step st2 k2) p2
  · obtain ⟨g1, g2⟩ := f.st.newO hT (.tup vs)
    exact hg.2 hb T vs es s s1 σ H W hT g1 r e Q fun σ2 H2 W2 st2 k2 p2 => q σ2 H2 W2 (g2.le.trans k2.le) ((f.step g1 g2).step st2 k2) p2
end
/-! {k: [] for ..} -/
section
variable {K : PySem.W.Frag} {mg : Str → Option Value} {b : Bool} {mi : M (List D)} {vs : List Nat} {g : TG} {asg : D → S → Option S} {c : M Bool} {kx : M D}
end
section
variable {X : Cx} {b : Bool} {kx tg it : Expr} {ifs : List Expr} {scope : Scope} {own : List (Str × Nat)} {vs : List Nat} {pos py : Pos} {g : TG} {asg : D → S → Option S} {mi : M (List D)} {c : M Bool} {mk : M D}
end
/-! what fills it -/
abbrev MH := S × KL → Option (S × KL)
def setL (kvs : KL) (k : List Key) (ds : List D) : KL := kvs.map fun q => if q.1 = k then (q.1, ds) else q
section
variable {X : Cx} {i : Nat} {st : Stmt} {sts : List Stmt} {m ms : MH}
theorem setL_none {kvs : KL} {k : List Key} {ds : List D} (h : k ∉ kvs.map (·.1)) : setL kvs k ds = kvs := by
  unfold setL
  conv => rhs; rw [← List.map_id kvs]
  refine List.map_congr_left fun q hq => ?_
  rw [if_neg fun e => h (List.mem_map.mpr ⟨q, hq, e⟩)]; rfl
/-- one of its lists changes -/
theorem HL.set {K : PySem.W.Frag} {mg : Str → Option Value} {s : S} {σ : L2.St} {H W H0 : Hp} {gs : List Ent} {ps : List Addr} {kvs : KL} {k : List Key} {p : Addr} {vs : List V} {ds : List D} (h : HL K mg s σ H W H0 gs ps kvs) (nd : ps.Nodup) (nk : (kvs.map (·.1)).Nodup) (e : valX gs k = some (.ref p)) (r : DRs K mg W vs ds) : HL K mg s σ (upd H p (.lst vs)) W H0 gs ps (setL kvs k ds) := by
  induction h with
  | nil => cases e
  | @cons k' b p' vs' ds' gs ps kvs h1 h2 h3 h4 h5 h6 hh ih =>
    rw [List.nodup_cons] at nd
    rw [List.map_cons, List.nodup_cons] at nk
    by_cases z : k' = k
    · have e1 : p' = p := by simpa [valX, z] using e
      subst e1 z
      have : setL ((k', ds') :: kvs) k' ds = (k', ds) :: kvs := by
        show (if k' = k' then (k', ds) else (k', ds')) :: setL kvs k' ds = _
        rw [if_pos rfl, setL_none nk.1]
      rw [this]
      exact .cons h1 h2 h3 h4 upd_same r (hh.other nd.1)
    · have e2 : valX gs k = some (.ref p) := by simpa [valX, z] using e
      have hp : p ∈ ps := by
        clear ih nd nk h1 h2 h3 h4 h5 h6 e
        induction hh with
        | nil => cases e2
        | @cons k'' b'' p'' _ _ gs ps kvs _ _ _ _ _ _ _ ih2 =>
          by_cases y : k'' = k
          · have : p'' = p := by simpa [valX, y] using e2
            simp [this]
          · exact List.mem_cons_of_mem _ (ih2 (by simpa [valX, y] using e2))
      have ne : p' ≠ p := fun y => nd.1 (y ▸ hp)
      have : setL ((k', ds') :: kvs) k ds = (k', ds') :: setL kvs k ds := by
        show (if k' = k then (k', ds) else (k', ds')) :: setL kvs k ds = _
        rw [if_neg z]
      rw [this]
      exact .cons h1 h2 h3 h4 (by rw [upd_ne ne]; exact h5) h6 (ih nd.2 nk.2 e2)
end
/-! it is shown, and handed back -/
section
variable {K : PySem.W.Frag} {mg : Str → Option Value} {a : Addr} {s0 s : S} {σ0 σ : L2.St} {H0 W0 H W : Hp} {kvs : KL} {gs : List Ent} {ps : List Addr}
end
section
variable {X : Cx} {i : Nat} {y : Str} {py pos spos : Pos} {kx vx tg it0 : Expr} {ifs : List Expr} {scope : Scope} {own : List (Str × Nat)} {g : TG}
end
end Fli
set_option Elab.async false
set_option linter.all false
set_option maxRecDepth 100000
set_option maxHeartbeats 4000000
namespace Fli
open PySem PySem.Spec PyProof.Rows L2
variable [HW]
/-! x, y = objects of their own -/
section
variable {X : Cx} {pr : List Nat}
theorem OR.step {K : PySem.W.Frag} {mg : Str → Option Value} {s s' : S} {σ σ' : L2.St} {H H' W W' : Hp} {p : Addr} {o : O} (r : OR K mg H W p o) (n : ¬ Own s σ p) (k : Kp s σ H W s' σ' H' W') : OR K mg H' W' p o ∧ ¬ Own s' σ' p ∧ H p ≠ none := by
  obtain ⟨w, r⟩ := r
  have go : ∀ u, H p = some u → Fli.nt u = true → H' p = some u ∧ W' p = none ∧ ¬ Own s' σ' p ∧ H p ≠ none := fun u hu nu => ⟨k.keep p u hu n nu, k.new p w (by rw [hu]; simp) n, (fun z => (k.own p z).elim n (fun z => (by rw [hu] at z; cases z))), by rw [hu]; simp⟩
  cases o with
  | lst ds => obtain ⟨vs, r1, r2⟩ := r; obtain ⟨a, b, c, d⟩ := go _ r1 rfl; exact ⟨⟨b, vs, a, r2.le k.le⟩, c, d⟩
  | obj cc fs => obtain ⟨C, dx, gs, r0, r1, r2⟩ := r; obtain ⟨a, b, c, d⟩ := go _ r1 rfl; exact ⟨⟨b, C, dx, gs, r0, a, r2.le k.le⟩, c, d⟩
  | dic kvs => obtain ⟨gs, r1, r2⟩ := r; obtain ⟨a, b, c, d⟩ := go _ r1 rfl; exact ⟨⟨b, gs, a, r2.le k.le⟩, c, d⟩
  | dit kvs => obtain ⟨gs, r1, r2⟩ := r; obtain ⟨a, b, c, d⟩ := go _ r1 rfl; exact ⟨⟨b, gs, a, r2.le k.le⟩, c, d⟩
end
end Fli
set_option Elab.async false
set_option linter.all false
set_option maxRecDepth 100000
set_option maxHeartbeats 4000000
namespace Fli
open PySem PySem.Spec PyProof.Rows L2
variable [HW]
/-! a list several times -/
section
variable {K : PySem.W.Frag} {mg : Str → Option Value} {W : Hp}
end
end Fli
set_option Elab.async false
set_option linter.all false
set_option maxRecDepth 100000
set_option maxHeartbeats 4000000
namespace Fli
open PySem PySem.Spec PyProof.Rows L2
variable [HW]
theorem _root_.L2.Room.un65 {k : Nat} {A : Around} (hr : Room k A) : A.units + 65 < cLine := by have := hr.un; omega
/-! in a list of data of any depth -/
def inDp (neg : Bool) (x y : D) : Option D := (toPy x).bind fun a => (toPy y).bind fun b => match b with
  | .list bs => if SeqAt.shaped a = true ∧ SeqAt.shaped (.list bs) = true then some (.bl (neg ^^ bs.any fun z => PyData.eqv z a)) else none
  | _ => none
section
variable {K : PySem.W.Frag} {mg : Str → Option Value}
theorem rd_inDp : R2D K mg (L2.rInD K) (inDp false) := R2D.of fun x y z vx vy H W le hx hy hf Q q => by
  simp only [inDp, Option.bind_eq_some_iff] at hf
  obtain ⟨a, ha, b, hb, hf⟩ := hf
  split at hf
  · split at hf
    · rename_i h
      cases hf
      rw [Bool.false_xor] at q
      exact ⟨a, _, toDp le hx ha, toDp le hy hb, h.1, h.2, q _ (.bl _)⟩
    · cases hf
  · cases hf
end
end Fli
set_option Elab.async false
set_option linter.all false
set_option maxRecDepth 100000
set_option maxHeartbeats 4000000
namespace Fli
open PySem PySem.Spec PyProof.Rows L2
variable [HW]
/-! one for over any items -/
def lcG (mi : M (List D)) (vs : List Nat) (asg : D → S → Option S) (c : M Bool) (elt : M D) : M O := fun s => (mi s).bind fun q => compM vs asg c elt q.1 q.2
section
variable {K : PySem.W.Frag} {mg : Str → Option Value} {b : Bool} {g : TG} {asg : D → S → Option S} {mi : M (List D)} {c : M Bool} {el : M D} {vs : List Nat}
theorem t_lcG (hf : TGx b K mg [] g asg) (hw : TGw vs g) {σ : L2.St} {H : Hp} {Q : VK} (h : tO K mg (lcG mi vs asg c el) σ H Q) :
    tLc (tI b K mg mi) g (tB K mg c) (tD K mg el) vs σ H Q := by
  obtain ⟨sd, W, o, sd', st, em, q⟩ := h
  simp only [lcG, Option.bind_eq_some_iff] at em
  obtain ⟨⟨ds, s1⟩, e1, em⟩ := em
  dsimp only at em
  obtain ⟨no, r, e2, rfl, rfl⟩ := compM_some em
  refine ⟨sd, W, ds, s1, st, e1, fun J H1 W1 st1 k1 io Dl hD => ?_⟩
  let In (j : Nat) (H' : Hp) : Prop := ∃ s' W' acc, Fil K mg (lstR K mg acc) Dl (wipeS vs s1) (L2.wipe σ vs) H1 W1 s' (L2.wipe σ vs) H' W' ∧ compL vs asg c el (ds.drop j) acc s' = some r
  refine ⟨fun i m H' => In i H' ∧ m + i = ds.length, ⟨ds.length, ⟨wipeS vs s1, W1, [], ?_, e2⟩, rfl⟩, ?_⟩
  · obtain ⟨z1, z2⟩ := (st1.wipe (vs := vs)).newO hD (.lst [])
    exact ⟨z1, z2, st1.free hD, fun z => st1.notOwn hD z.wipe, _, upd_same, [], rfl, .nil⟩
  rintro i m H' ⟨⟨s', W', acc, f, em⟩, hm⟩
  have lW : Le W1 W' := f.kp.le
  by_cases hi : i < ds.length
  · refine .inr ⟨io.go i H' (lW.trans f.st.le) hi, In (i + 1), fun H2 n => ⟨m - 1, by omega, n, by omega⟩, ?_⟩
    intro x H2 y
    rw [List.drop_eq_getElem_cons hi] at em
    simp only [compL, Option.bind_eq_some_iff] at em
    obtain ⟨s2, a1, ⟨k, s3⟩, a2, em⟩ := em
    have ww : L2.wipe (L2.wipe σ vs) vs = L2.wipe σ vs := wipe_wipe
    have key := hw x (L2.wipe σ vs) H2 (fun σ2 H3 => tB K mg c σ2 H3 fun b H4 => if b = true then tD K mg el σ2 H4 fun y H5 => ∃ acc, H5 Dl = some (.lst acc) ∧ acc.length < sizeLine ∧ In (i + 1) (upd H5 Dl (.lst (acc ++ [y]))) else In (i + 1) H4)
      (f.item lstR_mono io lW y (List.getElem?_eq_getElem hi) hf a1 fun σ2 H3 W3 l3 f2 _ hz => ?_)
    · rw [ww] at key; exact key
    rw [ww] at hz
    refine ⟨s2, W3, k, s3, f2.st, a2, fun H4 W4 st4 k4 => ?_⟩
    have f4 := f2.step lstR_mono st4 k4
    cases k with
    | false => exact iteF ⟨wipeS vs s3, W4, acc, f4.wiped hz, em⟩
    | true =>
      refine iteT ?_
      simp only [Option.bind_eq_some_iff] at em
      obtain ⟨⟨y8, s5⟩, a3, em⟩ := em
      split at em
      case isFalse => cases em
      rename_i hsz
      refine ⟨s3, W4, y8, s5, f4.st, a3, fun v H5 W5 st5 k5 r5 => ?_⟩
      have f5 := f4.step lstR_mono st5 k5
      obtain ⟨u, hu, av, rfl, ra⟩ := f5.ob
      exact ⟨av, hu, by rw [ra.len]; exact hsz, wipeS vs s5, W5, acc ++ [y8], (f5.put lstR_mono hD ⟨av ++ [v], rfl, ra.app (.cons r5 .nil)⟩).wiped hz, em⟩
  · rw [List.drop_eq_nil_of_le (by omega)] at em
    cases em
    refine .inl ⟨io.stop i H' (lW.trans f.st.le) (by omega), ?_⟩
    obtain ⟨u, hu, av, rfl, ra⟩ := f.ob
    obtain ⟨z1, z2⟩ := f.st.rest st1 f.kp.le no
    exact q Dl H' W' z1 (k1.trans ⟨f.kp.le, fun a o h q => f.kp.keep a o h fun z => q z.wipe, fun a h h' q => f.kp.new a h h' fun z => q z.wipe, fun a h => (f.kp.own a (z2 a h)).imp (fun z => z.wipe) id, f.kp.there⟩) ⟨f.w, av, hu, ra⟩ (fun z => f.no (z2 _ z)) (k1.fresh hD)
end
section
variable {X : Cx} {b : Bool} {elt tg it : Expr} {ifs : List Expr} {scope : Scope} {own : List (Str × Nat)} {vs : List Nat} {pos spos py : Pos} {g : TG} {asg : D → S → Option S} {mi : M (List D)} {c : M Bool} {el : M D}
theorem o_lcG (hvs : own.map (fun x => x.2) = vs) (hc : X.calm = true) (hN : X.N.Nodup) (hi : IW b X tg it mi) (ok : BlkOk X.N X.env.scope scope own)
    (hg : Blks X scope fun Y => PG Y tg g) (hf : TGx b X.K X.mg [] g asg) (hw : TGw vs g) (ht : Blks X scope fun Y => PTs Y ifs (tB X.K X.mg c))
    (he : Blks X scope fun Y => PE Y elt (tD X.K X.mg el)) (hs : ∀ x, foldedSetIterable it X.env x = pure x := by intro _; rfl) :
    OE X (.ListComp elt [⟨tg, it, ifs, 0⟩] scope pos) (lcG mi vs asg c el) := by
  subst hvs
  exact PE.imp (pe_lc hc hN hi ok hg ht he hs) fun σ H Q h => t_lcG hf hw h
end
end Fli
set_option Elab.async false
set_option linter.all false
set_option maxRecDepth 100000
set_option maxHeartbeats 4000000
namespace Fli
open PySem PySem.Spec PyProof.Rows L2
variable [HW]
/-! in a tuple of data of any depth -/
def inTp (neg : Bool) (x y : D) : Option D := (toPy x).bind fun a => (toPy y).bind fun b => match b with
  | .tuple bs => if SeqAt.shaped a = true ∧ SeqAt.shaped (.tuple bs) = true then some (.bl (neg ^^ bs.any fun z => PyData.eqv z a)) else none
  | _ => none
def rInTp (K : PySem.W.Frag) (neg : Bool) : R2 := fun x y H Q => ∃ d ds, Dp K H x d ∧ Dp K H y (.tuple ds) ∧ SeqAt.shaped d = true ∧ SeqAt.shaped (.tuple ds) = true ∧ Q (.bl (neg ^^ ds.any fun z => PyData.eqv z d)) H
section
variable {X : Cx}
theorem op_inTp (hu : X.A.units + 65 < cLine) : OpR X (compareOp .In) (rInTp X.K false) := by
  rintro pins s σ H x y v u Q I rx ry ⟨d, ds, hd, he, sd, se, q⟩
  obtain ⟨as, r1⟩ := Dp.reads I d x v hd rx
  obtain ⟨bs, r2⟩ := Dp.reads I (.tuple ds) y u he ry
  rw [Bool.false_xor] at q
  exact SeqAt.in_tuple_reads r2 r1 (SeqAt.canLay_of_shaped se) (SeqAt.canLay_of_shaped sd) (room_in_shaped sd hu) ⟨.bl _, H, I, rfl, q⟩
end
section
variable {K : PySem.W.Frag} {mg : Str → Option Value}
theorem rd_inTp {neg : Bool} : R2D K mg (rInTp K neg) (inTp neg) := R2D.of fun x y z vx vy H W le hx hy hf Q q => by
  simp only [inTp, Option.bind_eq_some_iff] at hf
  obtain ⟨a, ha, b, hb, hf⟩ := hf
  split at hf
  · split at hf
    · rename_i h
      cases hf
      exact ⟨a, _, toDp le hx ha, toDp le hy hb, h.1, h.2, q _ (.bl _)⟩
    · cases hf
  · cases hf
end
end Fli
set_option Elab.async false
set_option linter.all false
set_option maxRecDepth 100000
set_option maxHeartbeats 4000000
namespace Fli
open PySem PySem.Spec PyProof.Rows L2
variable [HW]
/-! a text several times, any, divmod, an element of an own list as a target -/
structure TxtJ (K : PySem.W.Frag) (mg : Str → Option Value) : Prop extends Txt K mg where
  any : mg "any" = none
  divmod : mg "divmod" = none
theorem txtJ_mk {K : PySem.W.Frag} {mg : Str → Option Value} {h : Heap} (X : K.In h) (G : h.Ns mainGlobals mg) (T : Txt K mg) (z1 : PySem.W.nsIn K mainGlobals "any" = some none) (z2 : PySem.W.nsIn K mainGlobals "divmod" = some none) : TxtJ K mg :=
  have n {x : Str} (e : PySem.W.nsIn K mainGlobals x = some none) : mg x = none := PySem.W.mg_none_of X G e
  ⟨T, n z1, n z2⟩
section
variable {K : PySem.W.Frag} {mg : Str → Option Value}
def anyD : List D → Option D
  | [.lst ds] => (blsD ds).map fun bs => .bl (bs.any id)
  | _ => none
theorem cd_any : C1D K mg (rAny K) anyD := C1D.of fun xs z vs H W le hx hf Q q => by
  unfold anyD at hf
  split at hf
  · simp only [Option.map_eq_some_iff] at hf
    obtain ⟨bs, h, rfl⟩ := hf
    cases hx with
    | cons h1 h2 =>
      cases h2
      cases h1 with
      | lst s r => exact ⟨_, bs, rfl, by rw [← bls_rs r h]; exact .inl (.inl (le _ _ s)), q _ (.bl _)⟩
  · cases hf
end
def subF (i : Nat) (k : Int) : D → S → Option S := fun d s => match s[i]? with
  | some (some (.own (.lst ds))) => (L2.ixN ds.length k).map fun n => s.set i (some (.own (.lst (ds.set n d))))
  | _ => none
def dvmS (i : Nat) (k : Int) (j : Nat) (ms : M (List D)) : MS := fun s => (ms s).bind fun q => match q.1 with
  | [.int a, .int b] => if 0 < b ∧ b < 1000000 then (subF i k (.int (a / b)) q.2).map fun s2 => .nx (s2.set j (some (.d (.int (a % b))))) else none
  | _ => none
section
variable {X : Cx} {pr : List Nat} {x y : Str} {p2 p3 py pt pc pos pn : Pos} {ki kt : Nat} {i j : Nat} {k : Int} {a : Expr} {as : List Expr} {ms : M (List D)}
theorem s_dvm {b : Expr} (hcalm : X.calm = true) (hN : X.N.Nodup) (hn : PE X (.Name x p2) (tVar i)) (hb : DE X b (retM (.int k))) (hpg : PG X (.Name y py) (gName j)) (hp : j ∉ pr)
    (hg : Gl X "divmod") (hm : X.mg "divmod" = none) (hs : LA X (a :: as) ms)
    (h0 : ∀ (v : Value), assign (.Subscript (.Name x p2) b p3) X.env v = (do
                let ov ← holding [v] (eval (.Name x p2) X.env)
                let iv ← holding [v, ov] (eval b X.env)
                standAt p3
                holding [v, ov, iv] (setItem ov iv v)
                release [v, ov, iv] []) := by exact fun _ => rfl)
    (he : starEach (a :: as) X.env = (false, eval a X.env) :: starEach as X.env := by rfl) (hpl : (backTo pc (starEach as X.env)).any (·.1) = false := by rfl)
    (hl : (assignEach [.Subscript (.Name x p2) b p3, .Name y py] X.env).length = 2 := by rfl) (hst : (assignEach [.Subscript (.Name x p2) b p3, .Name y py] X.env).findIdx? (·.1) = none := by rfl)
    (hs1 : (assignEach [.Subscript (.Name x p2) b p3, .Name y py] X.env).map (·.2) = assign (.Subscript (.Name x p2) b p3) X.env :: (assignEach [.Name y py] X.env).map (·.2) := by rfl)
    (hs2 : (assignEach [.Name y py] X.env).map (·.2) = assign (.Name y py) X.env :: (assignEach [] X.env).map (·.2) := by rfl)
    (h1 : swapsWithSole [.Tuple [.Subscript (.Name x p2) b p3, .Name y py] kt pt] (.Call (.Name "divmod" pn) (a :: as) [] pc) pos.line X.env = pure false := by rfl)
    (h2 : swappedStores [.Tuple [.Subscript (.Name x p2) b p3, .Name y py] kt pt] (.Call (.Name "divmod" pn) (a :: as) [] pc) X.env = pure none := by rfl)
    (h3 : (assignEach [.Tuple [.Subscript (.Name x p2) b p3, .Name y py] kt pt] X.env).map (fun x => x.2) = [assign (.Tuple [.Subscript (.Name x p2) b p3, .Name y py] kt pt) X.env] := by rfl) :
    SE X pr (.Assign [.Tuple [.Subscript (.Name x p2) b p3, .Name y py] kt pt] (.Call (.Name "divmod" pn) (a :: as) [] pc) pos) (dvmS i k j ms) :=
  PS.imp (ps_asg (pe_callB call_divmodW hg hm rfl hs (by decide) (by decide) he hpl) (pg_tup hcalm (pgs_cons (pg_sub hn hb set_list h0) (pgs_cons hpg pgs_nil hs2) hs1) hl hst) h1 h2 h3) fun D σ H ⟨sd, W, out, st, em, q⟩ => by
  simp only [dvmS, Option.bind_eq_some_iff] at em
  obtain ⟨⟨ds, s1⟩, e1, em⟩ := em
  dsimp only at em
  split at em
  · rename_i a b
    split at em
    · rename_i h
      simp only [Option.map_eq_some_iff] at em
      obtain ⟨s2, e2, rfl⟩ := em
      refine ⟨sd, W, _, s1, st, e1, fun vs H1 W1 st1 k1 r1 => ?_⟩
      cases r1 with
      | cons r1 r2 =>
        cases r2 with
        | cons r2 r3 =>
          cases r3; cases r1; cases r2
          refine ⟨_, _, rfl, ⟨h.1, PyProof.noPylong_small (by omega)⟩, fun p hf => ?_⟩
          obtain ⟨st2, k2⟩ := st1.newV hf (.tup [.int (a / b), .int (a % b)])
          refine ⟨p, [.int (a / b), .int (a % b)], rfl, .inl (.inl upd_same), rfl, _, _, rfl, ?_⟩
          unfold subF at e2
          split at e2
          · rename_i es hi
            simp only [Option.map_eq_some_iff] at e2
            obtain ⟨n, hk, rfl⟩ := e2
            obtain ⟨ad, ea, w, vs, ha, ra⟩ := st2.own i _ hi
            refine ⟨.ref ad, ea, s1, _, .int k, s1, st2, rfl, fun u H3 W3 st3 k3 r3 => ?_⟩
            cases r3
            obtain ⟨ad', ea', w', vs', ha', ra'⟩ := st3.own i _ hi
            rw [ea] at ea'; cases ea'
            obtain ⟨g2, g3⟩ := st3.put (ho := .lst (vs'.set n (.int (a / b)))) (o' := .lst (es.set n (.int (a / b)))) hi ea w' ⟨w', _, upd_same, DRs.set (.int _) n ra'⟩
            refine ⟨_, vs', k, n, rfl, rfl, ha', by rw [ra'.len]; exact hk, _, _, rfl, ?_⟩
            obtain ⟨g4, g5⟩ := g2.setD (.int (a % b)) j
            exact ⟨rfl, q _ _ _ g4 ((((k1.trans k2).trans k3).trans g3).trans g5) (pr_set hp)⟩
          · cases e2
    · cases em
  · cases em
end
end Fli
set_option Elab.async false
set_option linter.all false
set_option maxRecDepth 100000
set_option maxHeartbeats 4000000
namespace Fli
open PySem PySem.Spec PyProof.Rows L2
variable [HW]
/-! own lists made one behind another, kept in a list, and lent one behind another -/
section
variable {K : PySem.W.Frag} {mg : Str → Option Value}
theorem OR.upd {H W : Hp} {a p : Addr} {o : O} {u : HO} (r : OR K mg H W a o) (n : a ≠ p) : OR K mg (upd H p u) W a o := by
  obtain ⟨w, r⟩ := r
  refine ⟨w, ?_⟩
  cases o with
  | lst ds => obtain ⟨vs, r1, r2⟩ := r; exact ⟨vs, by rw [upd_ne n]; exact r1, r2⟩
  | obj cc fs => obtain ⟨C, dx, gs, r0, r1, r2⟩ := r; exact ⟨C, dx, gs, r0, by rw [upd_ne n]; exact r1, r2⟩
  | dic kvs => obtain ⟨gs, r1, r2⟩ := r; exact ⟨gs, by rw [upd_ne n]; exact r1, r2⟩
  | dit kvs => obtain ⟨gs, r1, r2⟩ := r; exact ⟨gs, by rw [upd_ne n]; exact r1, r2⟩
theorem OR.there {H W : Hp} {a : Addr} {o : O} (r : OR K mg H W a o) : H a ≠ none := by
  obtain ⟨w, r⟩ := r
  cases o with
  | lst ds => obtain ⟨vs, r1, r2⟩ := r; rw [r1]; simp
  | obj cc fs => obtain ⟨C, dx, gs, r0, r1, r2⟩ := r; rw [r1]; simp
  | dic kvs => obtain ⟨gs, r1, r2⟩ := r; rw [r1]; simp
  | dit kvs => obtain ⟨gs, r1, r2⟩ := r; rw [r1]; simp
/-- own lists that no slot has -/
inductive Jg (K : PySem.W.Frag) (mg : Str → Option Value) (s : S) (σ : L2.St) (H W H0 : Hp) : List Addr → List O → Prop
  | nil : Jg K mg s σ H W H0 [] []
  | cons {a : Addr} {o : O} {as : List Addr} {os : List O} : OR K mg H W a o → ¬ Own s σ a → H0 a = none → a ∉ as → Jg K mg s σ H W H0 as os → Jg K mg s σ H W H0 (a :: as) (o :: os)
variable {s s' : S} {σ σ' : L2.St} {H W H' W' H0 : Hp} {as : List Addr} {os : List O}
theorem Jg.step (k : Kp s σ H W s' σ' H' W') (j : Jg K mg s σ H W H0 as os) : Jg K mg s' σ' H' W' H0 as os := by
  induction j with
  | nil => exact .nil
  | cons r n h0 na _ ih =>
    obtain ⟨r', n', _⟩ := r.step n k
    exact .cons r' n' h0 na ih
theorem Jg.up {p : Addr} {u : HO} (j : Jg K mg s σ H W H0 as os) (n : p ∉ as) : Jg K mg s σ (upd H p u) W H0 as os := by
  induction j with
  | nil => exact .nil
  | cons r nn h0 na _ ih => exact .cons (r.upd fun e => n (by rw [e]; simp)) nn h0 na (ih fun z => n (List.mem_cons_of_mem _ z))
theorem Jg.len (j : Jg K mg s σ H W H0 as os) : as.length = os.length := by
  induction j with
  | nil => rfl
  | cons _ _ _ _ _ ih => simp [ih]
theorem Jg.sub {s2 : S} {σ2 : L2.St} (j : Jg K mg s σ H W H0 as os) (h : ∀ a, Own s2 σ2 a → Own s σ a) : Jg K mg s2 σ2 H W H0 as os := by
  induction j with
  | nil => exact .nil
  | cons r n h0 na _ ih => exact .cons r (fun z => n (h _ z)) h0 na ih
theorem Jg.base {H1 : Hp} (j : Jg K mg s σ H W H1 as os) (h : ∀ a, H1 a = none → H0 a = none) : Jg K mg s σ H W H0 as os := by
  induction j with
  | nil => exact .nil
  | cons r n h1 na _ ih => exact .cons r n (h _ h1) na ih
variable {b : Bool} {g : TG} {asg : D → S → Option S} {mi : M (List D)} {mo : M O} {vs : List Nat}
end
section
variable {X : Cx}
end
end Fli
set_option Elab.async false
set_option linter.all false
set_option maxRecDepth 100000
set_option maxHeartbeats 4000000
namespace Fli
open PySem PySem.Spec PyProof.Rows L2
variable [HW]
/-! l.index(x), l a list of texts -/
section
variable {X : Cx} {o e : Expr} {ma mb : M D} {apos pos : Pos}
end
end Fli
set_option Elab.async false
set_option linter.all false
set_option maxRecDepth 100000
set_option maxHeartbeats 4000000
namespace Fli
open PySem PySem.Spec PyProof.Rows L2
variable [HW]
/-! x is not y, both true or false -/
def nottD : D → D → Option D
  | .bl a, .bl b => some (.bl (!decide (a = b)))
  | _, _ => none
def rNott : R2 := fun x y H Q => ∃ a b, x = V.bl a ∧ y = V.bl b ∧ Q (V.bl (!decide (a = b))) H
section
variable {X : Cx} {K : PySem.W.Frag} {mg : Str → Option Value}
theorem op_nott : OpR X (compareOp .IsNot) rNott := by
  intro pins s σ H x y v u Q I rx ry h
  obtain ⟨m, n, rfl, rfl, q⟩ := h
  cases (show v = Value.bool m from rx)
  cases (show u = Value.bool n from ry)
  by_cases e : m = n
  · subst e
    exact wpAny_isNot_self rfl ⟨.bl false, H, I, rfl, by simpa using q⟩
  · exact wpAny_isNot_other rfl (fun z => e (Value.bool.inj z)) ⟨.bl true, H, I, rfl, by simpa [e] using q⟩
theorem rd_nott : R2D K mg rNott nottD := R2D.of fun x y z vx vy H W le hx hy hf Q q => by
  unfold nottD at hf
  split at hf
  · cases hf; cases hx; cases hy
    exact ⟨_, _, rfl, rfl, q _ (.bl _)⟩
  · cases hf
end
end Fli
set_option Elab.async false
set_option linter.all false
set_option maxRecDepth 100000
set_option maxHeartbeats 4000000
namespace Fli
open PySem PySem.Spec PyProof.Rows L2
variable [HW]
/-! own dicts with texts and ints for keys: made empty, written, read -/
section
variable {K : PySem.W.Frag} {mg : Str → Option Value} {sd s' : S} {σ : L2.St} {H W : Hp}
end
section
variable {X : Cx} {e f a : Expr} {m ma mb mc : M D} {x : Str} {p2 pos apos cpos : Pos}
/-- {} -/
theorem o_knew : OE X (.Dict [] [] pos) (fun s => some (.dic [], s)) := PE.imp (pe_dnewK) fun σ H Q ⟨sd, W, o, sd', st, em, q⟩ => fun p hp => by
  cases em
  obtain ⟨z1, z2⟩ := st.newO hp (.dK [])
  exact q p _ W z1 z2 ⟨st.free hp, [], upd_same, .nil⟩ (st.notOwn hp) hp
end
end Fli
set_option Elab.async false
set_option linter.all false
set_option maxRecDepth 100000
set_option maxHeartbeats 4000000
namespace Fli
open PySem L2
variable [HW]
/-! a call without arguments -/
section
variable {X : Cx} {k n : Nat} {N : List Str} {body : MS} {x : Str} {p pos : Pos}
theorem tL_nil {K : PySem.W.Frag} {mg : Str → Option Value} {σ : L2.St} {H : Hp} {Q : List V → Hp → Prop} (h : tL K mg (retM []) σ H Q) : tNil σ H Q := by
  obtain ⟨sd, W, d, sd', st, em, q⟩ := h
  cases em
  exact q [] H W st Kp.refl .nil
theorem e_callX0 (d : DefX X.prog X.w X.K X.mg X.base k x N [] [] body) (hr : Room k X.A) (hg : Gl X x) (hn : N.length = n) (hdb : (x == ("__debug__" : Str)) = false := by decide) :
    DE X (.Call (.Name x p) [] [] pos) (callD n body (retM []) []) := by
  obtain ⟨f, fd, F, hm, hk, hb⟩ := d
  exact PE.imp (pe_call0 F hr hg hm hk hb .nil pass0 hdb) fun σ H Q h => tL_nil (t_callD (E := E0) (dvs := []) (dd := []) hn (fun q s s' z => by cases z; rfl) (fun _ => .nil) h)
end
end Fli
set_option Elab.async false
set_option linter.all false
set_option maxRecDepth 100000
set_option maxHeartbeats 4000000
namespace Fli
open PySem PySem.Spec PyProof.Rows L2
variable [HW]
/-! for k, v in x.items(): the slot's own dict is put away meanwhile -/
section
variable {K : PySem.W.Frag} {mg : Str → Option Value} {pr : List Nat} {ED : Ends} {sd : S} {σ : L2.St} {H W : Hp} {out : Out} {gs : TGs} {fs : List D → S → Option S} {m : MS}
end
section
variable {X : Cx} {pr : List Nat} {x : Str} {sts : List Stmt} {pos p2 apos cpos tpos : Pos} {elts : List Expr} {kk : Nat} {gs : TGs} {fs : List D → S → Option S} {m : MS}
end
end Fli
set_option Elab.async false
set_option linter.all false
set_option maxRecDepth 100000
set_option maxHeartbeats 4000000
namespace Fli
open PySem PySem.Spec PyProof.Rows L2
variable [HW]
/-! x = {k: v for ..}, x a local name on the same line -/
section
variable {X : Cx} {i : Nat} {y : Str} {py pos spos : Pos} {kx vx tg it0 : Expr} {ifs : List Expr} {scope : Scope} {own : List (Str × Nat)} {g : TG}
end
/-! list(d), d a dict -/
end Fli
set_option Elab.async false
set_option linter.all false
set_option maxRecDepth 100000
set_option maxHeartbeats 4000000
namespace Fli
open PySem PySem.Spec PyProof.Rows L2
variable [HW]
/-! x[::-1] of a list -/
section
variable {X : Cx} {e st : Expr} {te : TE} {ts : TO} {p2 pos : Pos}
theorem DRs.rev {K : PySem.W.Frag} {mg : Str → Option Value} {W : Hp} : ∀ {vs : List V} {ds : List D}, DRs K mg W vs ds → DRs K mg W vs.reverse ds.reverse
  | _, _, .nil => .nil
  | _, _, .cons h r => by
    rw [List.reverse_cons, List.reverse_cons]
    exact (DRs.rev r).app (.cons h .nil)
end
end Fli
set_option Elab.async false
set_option linter.all false
set_option maxRecDepth 100000
set_option maxHeartbeats 4000000
namespace Fli
open PySem L2
variable [HW]
/-! calls of defs that ask for repr, from such a def -/
section
variable {X : Cx} {k n j : Nat} {N ps : List Str} {body : MS} {x y : Str} {p pos p2 : Pos} {e : Expr} {es : List Expr} {ms : M (List D)}
end
/-! a, b = x, x a list -/
end Fli
set_option Elab.async false
set_option linter.all false
set_option maxRecDepth 100000
set_option maxHeartbeats 4000000
namespace Fli
open PySem PySem.Spec PyProof.Rows L2
/-! sorted of texts: the sorted list is the only one -/
variable [HW]
/-! sorted(x) of a list or a tuple of texts -/
section
variable {prog : Program} {w : World} {A : Around} {E : Value → Shared → Prop} {s : Shared}
end
section
variable {X : Cx}
end
section
variable {X : Cx} {x : Str} {p pos : Pos} {e : Expr} {es : List Expr}
end
structure TxtS (K : PySem.W.Frag) (mg : Str → Option Value) : Prop extends TxtJ K mg where
  sorted : mg "sorted" = none
end Fli
set_option linter.all false
namespace Fli
/-! the search, layer by layer -/
section
variable {L E V : Type} [DecidableEq L]
def within (suc : L → List (E × L)) (l : L) : Nat → L → Prop
  | 0, m => m = l
  | k + 1, m => within suc l k m ∨ ∃ h e, within suc l k h ∧ (e, m) ∈ suc h
inductive Val (upd : V → E → L → V) (suc : L → List (E × L)) (l : L) (v0 : V) : Nat → L → V → Prop
  | z : Val upd suc l v0 0 l v0
  | s {k : Nat} {h m : L} {v : V} {e : E} : Val upd suc l v0 k h v → (e, m) ∈ suc h → Val upd suc l v0 (k + 1) m (upd v e m)
variable {upd : V → E → L → V} {suc : L → List (E × L)} {l : L} {v0 : V}
/-- within a layer -/
structure InL (upd : V → E → L → V) (suc : L → List (E × L)) (f : List (L × V)) (lat : List L) (new : List (L × V)) : Prop where
  nd : ((f ++ new).map (·.1)).Nodup
  val : ∀ p ∈ new, ∃ h e vh, h ∈ lat ∧ (e, p.1) ∈ suc h ∧ (h, vh) ∈ f ∧ p.2 = upd vh e p.1
/-- behind k layers -/
structure Lay (upd : V → E → L → V) (suc : L → List (E × L)) (l : L) (v0 : V) (k : Nat) (st : List (L × V) × List L) : Prop where
  nd : (st.1.map (·.1)).Nodup
  mem : ∀ m, m ∈ st.1.map (·.1) ↔ within suc l k m
  lat : ∀ m, m ∈ st.2 ↔ within suc l k m ∧ ∀ j, j < k → ¬ within suc l j m
  val : ∀ m v, (m, v) ∈ st.1 → ∃ j, j ≤ k ∧ Val upd suc l v0 j m v ∧ within suc l j m ∧ ∀ i, i < j → ¬ within suc l i m
end
end Fli
set_option Elab.async false
set_option linter.all false
set_option maxRecDepth 100000
set_option maxHeartbeats 4000000
namespace Fli
open PySem PySem.Spec PyProof.Rows L2
variable [HW]
/-! a dict that is data, locked while it is walked -/
section
variable {K : PySem.W.Frag} {mg : Str → Option Value} {W : Hp} {a : Addr} {gs : List (Key × V)} {od : Obj}
theorem lk_at {b : Addr} {u : HO} (w : W a = some (.dK gs)) (h : W b = some u) (n : u ≠ .dK gs) : upd W a (.frz od (.dK gs)) b = some u := by
  rw [upd_ne (fun z => by rw [z, w] at h; cases h; exact n rfl)]; exact h
theorem dx_ne {b : Addr} {xs : List (List Key × Addr × V)} : DX b xs ≠ .dK gs := fun z => by unfold DX at z; cases z
theorem sf_lk {b : Addr} {vs : List V} (w : W a = some (.dK gs)) (h : SqF K W b vs) : SqF K (upd W a (.frz od (.dK gs))) b vs := by
  rcases h with ⟨ob, h, f⟩ | h
  · exact .inl ⟨ob, lk_at w h (fun z => nomatch z), f⟩
  · exact .inr h
theorem sl_lk {b : Addr} {vs : List V} (w : W a = some (.dK gs)) (h : SqL K W b vs) : SqL K (upd W a (.frz od (.dK gs))) b vs := by
  rcases h with (h | ⟨o, h⟩) | h
  · exact .inl (.inl (lk_at w h (fun z => nomatch z)))
  · exact .inl (.inr ⟨o, lk_at w h (fun z => nomatch z)⟩)
  · exact .inr h
theorem rd_lk {b : Addr} {hs : List (Key × V)} (w : W a = some (.dK gs)) (h : Rd W b (.dK hs)) : Rd (upd W a (.frz od (.dK gs))) b (.dK hs) := by
  by_cases z : b = a
  · subst z
    rcases h with h | ⟨o, h⟩
    · rw [w] at h; cases h; exact .inr ⟨od, upd_same⟩
    · rw [w] at h; cases h
  · exact h.imp (fun h => by rw [upd_ne z]; exact h) fun ⟨o, h⟩ => ⟨o, by rw [upd_ne z]; exact h⟩
mutual
theorem DR.lk (w : W a = some (.dK gs)) : ∀ {v : V} {d : D}, DR K mg W v d → DR K mg (upd W a (.frz od (.dK gs))) v d
  | _, _, .non => .non
  | _, _, .bl b => .bl b
  | _, _, .int i => .int i
  | _, _, .str x => .str x
  | _, _, .tup s r => .tup (sf_lk w s) (DRs.lk w r)
  | _, _, .lst s r => .lst (lk_at w s (fun z => nomatch z)) (DRs.lk w r)
  | _, _, .scr s => .scr (sl_lk w s)
  | _, _, .ins m s r => .ins m (lk_at w s (fun z => nomatch z)) (DFs.lk w r)
  | _, _, .cls m => .cls m
  | _, _, .dic h r => .dic (rd_lk w h) (DKs.lk w r)
  | _, _, .dit h r => .dit (lk_at w h dx_ne) (DTs.lk w r)
  | _, _, .ptr => .ptr
  | _, _, .exc h r => .exc (lk_at w h (fun z => nomatch z)) (DFs.lk w r)
theorem DRs.lk (w : W a = some (.dK gs)) : ∀ {vs : List V} {ds : List D}, DRs K mg W vs ds → DRs K mg (upd W a (.frz od (.dK gs))) vs ds
  | _, _, .nil => .nil
  | _, _, .cons h r => .cons (DR.lk w h) (DRs.lk w r)
theorem DFs.lk (w : W a = some (.dK gs)) : ∀ {gs' : List (Str × V)} {fs : List (Str × D)}, DFs K mg W gs' fs → DFs K mg (upd W a (.frz od (.dK gs))) gs' fs
  | _, _, .nil => .nil
  | _, _, .cons h r => .cons (DR.lk w h) (DFs.lk w r)
theorem DKs.lk (w : W a = some (.dK gs)) : ∀ {gs' : List (Key × V)} {fs : List (Key × D)}, DKs K mg W gs' fs → DKs K mg (upd W a (.frz od (.dK gs))) gs' fs
  | _, _, .nil => .nil
  | _, _, .cons h r => .cons (DR.lk w h) (DKs.lk w r)
theorem DTs.lk (w : W a = some (.dK gs)) : ∀ {gs' : List (List Key × Addr × V)} {fs : List (List Key × D)}, DTs K mg W gs' fs → DTs K mg (upd W a (.frz od (.dK gs))) gs' fs
  | _, _, .nil => .nil
  | _, _, .cons s h r => .cons (sf_lk w s) (DR.lk w h) (DTs.lk w r)
end
/-- .. and the way back -/
theorem ul_at {b : Addr} {u : HO} (w : W a = some (.frz od (.dK gs))) (h : W b = some u) (n : u ≠ .frz od (.dK gs)) : upd W a (.dK gs) b = some u := by
  rw [upd_ne (fun z => by rw [z, w] at h; cases h; exact n rfl)]; exact h
theorem sf_ul {b : Addr} {vs : List V} (w : W a = some (.frz od (.dK gs))) (h : SqF K W b vs) : SqF K (upd W a (.dK gs)) b vs := by
  rcases h with ⟨ob, h, f⟩ | h
  · exact .inl ⟨ob, ul_at w h (fun z => by cases z), f⟩
  · exact .inr h
theorem sl_ul {b : Addr} {vs : List V} (w : W a = some (.frz od (.dK gs))) (h : SqL K W b vs) : SqL K (upd W a (.dK gs)) b vs := by
  rcases h with (h | ⟨o, h⟩) | h
  · exact .inl (.inl (ul_at w h (fun z => nomatch z)))
  · exact .inl (.inr ⟨o, ul_at w h (fun z => by cases z)⟩)
  · exact .inr h
theorem rd_ul {b : Addr} {hs : List (Key × V)} (w : W a = some (.frz od (.dK gs))) (h : Rd W b (.dK hs)) : Rd (upd W a (.dK gs)) b (.dK hs) := by
  by_cases z : b = a
  · subst z
    rcases h with h | ⟨o, h⟩
    · rw [w] at h; cases h
    · rw [w] at h; cases h; exact .inl upd_same
  · exact h.imp (fun h => by rw [upd_ne z]; exact h) fun ⟨o, h⟩ => ⟨o, by rw [upd_ne z]; exact h⟩
theorem dx_nf {b : Addr} {xs : List (List Key × Addr × V)} {u : HO} : DX b xs ≠ .frz od u := fun z => by unfold DX at z; cases z
mutual
theorem DR.ul (w : W a = some (.frz od (.dK gs))) : ∀ {v : V} {d : D}, DR K mg W v d → DR K mg (upd W a (.dK gs)) v d
  | _, _, .non => .non
  | _, _, .bl b => .bl b
  | _, _, .int i => .int i
  | _, _, .str x => .str x
  | _, _, .tup s r => .tup (sf_ul w s) (DRs.ul w r)
  | _, _, .lst s r => .lst (ul_at w s (fun z => nomatch z)) (DRs.ul w r)
  | _, _, .scr s => .scr (sl_ul w s)
  | _, _, .ins m s r => .ins m (ul_at w s (fun z => nomatch z)) (DFs.ul w r)
  | _, _, .cls m => .cls m
  | _, _, .dic h r => .dic (rd_ul w h) (DKs.ul w r)
  | _, _, .dit h r => .dit (ul_at w h dx_nf) (DTs.ul w r)
  | _, _, .ptr => .ptr
  | _, _, .exc h r => .exc (ul_at w h (fun z => nomatch z)) (DFs.ul w r)
theorem DRs.ul (w : W a = some (.frz od (.dK gs))) : ∀ {vs : List V} {ds : List D}, DRs K mg W vs ds → DRs K mg (upd W a (.dK gs)) vs ds
  | _, _, .nil => .nil
  | _, _, .cons h r => .cons (DR.ul w h) (DRs.ul w r)
theorem DFs.ul (w : W a = some (.frz od (.dK gs))) : ∀ {gs' : List (Str × V)} {fs : List (Str × D)}, DFs K mg W gs' fs → DFs K mg (upd W a (.dK gs)) gs' fs
  | _, _, .nil => .nil
  | _, _, .cons h r => .cons (DR.ul w h) (DFs.ul w r)
theorem DKs.ul (w : W a = some (.frz od (.dK gs))) : ∀ {gs' : List (Key × V)} {fs : List (Key × D)}, DKs K mg W gs' fs → DKs K mg (upd W a (.dK gs)) gs' fs
  | _, _, .nil => .nil
  | _, _, .cons h r => .cons (DR.ul w h) (DKs.ul w r)
theorem DTs.ul (w : W a = some (.frz od (.dK gs))) : ∀ {gs' : List (List Key × Addr × V)} {fs : List (List Key × D)}, DTs K mg W gs' fs → DTs K mg (upd W a (.dK gs)) gs' fs
  | _, _, .nil => .nil
  | _, _, .cons s h r => .cons (sf_ul w s) (DR.ul w h) (DTs.ul w r)
end
end
section
variable {K : PySem.W.Frag} {mg : Str → Option Value} {sd : S} {σ : L2.St} {H W : Hp} {a : Addr} {gs : List (Key × V)} {od : Obj}
theorem Kp.locked {sd' : S} {σ' : L2.St} {H' W' : Hp} (w : W a = some (.dK gs)) (hH : H a = some (.dK gs)) (no : ¬ Own sd σ a) (k : Kp sd σ (upd H a (.frz od (.dK gs))) (upd W a (.frz od (.dK gs))) sd' σ' H' W') : Kp sd σ H W sd' σ' (upd H' a (.dK gs)) (upd W' a (.dK gs)) := by
  refine ⟨fun b o h => ?_, fun b o h n t => ?_, fun b h h' n => ?_, fun b h => ?_, fun b h => ?_⟩
  · by_cases z : b = a
    · subst z; rw [w] at h; cases h; exact upd_same
    · rw [upd_ne z]; exact k.le b o (by rw [upd_ne z]; exact h)
  · by_cases z : b = a
    · subst z; rw [hH] at h; cases h; exact upd_same
    · rw [upd_ne z]; exact k.keep b o (by rw [upd_ne z]; exact h) n t
  · have z : b ≠ a := fun z => by rw [z, w] at h; cases h
    rw [upd_ne z]; exact k.new b (by rw [upd_ne z]; exact h) (by rw [upd_ne z]; exact h') n
  · refine (k.own b h).imp id fun q => ?_
    by_cases z : b = a
    · subst z; rw [upd_same] at q; cases q
    · rw [upd_ne z] at q; exact q
  · by_cases z : b = a
    · subst z; rw [upd_same]; simp
    · rw [upd_ne z]; exact k.there b (by rw [upd_ne z]; exact h)
end
/-! [.. for k in d if ..], d a dict given as data, in a slot -/
section
variable {X : Cx} {elt tg : Expr} {ifs : List Expr} {scope : Scope} {own : List (Str × Nat)} {vs : List Nat} {pos spos py p2 : Pos} {x : Str} {g : TG} {asg : D → S → Option S} {c : M Bool} {el : M D}
end
/-! min(xs), max(xs) of a list of ints -/
end Fli
set_option Elab.async false
set_option linter.all false
set_option maxRecDepth 100000
set_option maxHeartbeats 4000000
namespace Fli
open PySem PySem.Spec PyProof.Rows L2
variable [HW]
/-! dict(pairs), a list of pairs (key, value) -/
section
variable {K : PySem.W.Frag} {mg : Str → Option Value}
end
/-! [.. for k in x[y] if ..], x a dict of dicts given as data -/
section
variable {K : PySem.W.Frag} {mg : Str → Option Value} {sd : S} {σ : L2.St} {H W : Hp} {i j : Nat} {ks : List D} {s' : S}
end
section
variable {X : Cx} {elt tg : Expr} {ifs : List Expr} {scope : Scope} {own : List (Str × Nat)} {vs : List Nat} {pos spos py p2 p3 p4 : Pos} {x y : Str} {g : TG} {asg : D → S → Option S} {c : M Bool} {el : M D}
end
/-! len(d), d a dict -/
end Fli
set_option Elab.async false
set_option linter.all false
set_option maxRecDepth 100000
set_option maxHeartbeats 4000000
/-! zip of a tuple and a text of plain signs, as long as one another -/
namespace Fli
open PySem PySem.Spec PyProof.Rows L2 RZ
section
variable {prog : Program} {w : World} {A : Around} {E : Value → Shared → Prop} {s : Shared}
end
end Fli
set_option Elab.async false
set_option linter.all false
set_option maxRecDepth 100000
set_option maxHeartbeats 4000000
/-! zip of a tuple and a text: what is walked -/
namespace Fli
open PySem PySem.Spec PyProof.Rows L2 RZ
section
variable [HW] {b : Bool} {K : PySem.W.Frag} {mg : Str → Option Value} {W : Hp}
end
end Fli
set_option Elab.async false
set_option linter.all false
set_option maxRecDepth 100000
set_option maxHeartbeats 4000000
/-! x[::-1] of a tuple -/
namespace PyProof.Rows
open PySem
section
variable {prog : Program} {w : World} {A : Around} {E : Value → Shared → Prop} {s : Shared}
theorem adjust_rev (n : Nat) : Builtin.Slice.sliceAdjust none none (-1) (n : Int) = ((n : Int) - 1, -1) := by
  unfold Builtin.Slice.sliceAdjust
  simp
theorem places_rev (n : Nat) : Builtin.Slice.slicePlaces ((n : Int) - 1) (-1) (-1) = n := by
  unfold Builtin.Slice.slicePlaces
  have h1 : ¬ ((-1 : Int) > 0) := by omega
  have h2 : (- -1 : Int) = 1 := rfl
  simp only [h1, if_false, h2, Int.ediv_one]
  split <;> omega
theorem pick_rev (items : Array Value) : ((List.range items.size).filterMap fun (k : Nat) => items[((items.size : Int) - 1 + (k : Int) * (-1)).toNat]?).toArray = items.toList.reverse.toArray := by
  have e : (List.range items.size).filterMap (fun (k : Nat) => items[((items.size : Int) - 1 + (k : Int) * (-1)).toNat]?) = ((List.range items.size).map fun k => items.size - 1 - k).filterMap (items[·]?) := by
    rw [List.filterMap_map]
    have go : ∀ L : List Nat, (∀ k ∈ L, k < items.size) → L.filterMap (fun (k : Nat) => items[((items.size : Int) - 1 + (k : Int) * (-1)).toNat]?) = L.filterMap ((items[·]?) ∘ fun k => items.size - 1 - k) := by
      intro L
      induction L with
      | nil => intro _; rfl
      | cons k L ih =>
        intro h
        have hk := h k (by simp)
        have e1 : ((items.size : Int) - 1 + (k : Int) * (-1)).toNat = items.size - 1 - k := by omega
        rw [List.filterMap_cons, List.filterMap_cons, ih fun j hj => h j (List.mem_cons_of_mem _ hj), e1]
        rfl
    exact go _ fun k hk => List.mem_range.mp hk
  rw [e, PySem.W.krv_range, List.filterMap_reverse, PySem.W.krv_all]
theorem sliceApplied_rev {sl : Addr} {n : Nat} {vk : Value} {Q : Int × Int × Nat → Shared → Prop} (hs : s.heap.IsSliceOf sl .none .none vk) (pk : IsPart vk (some (-1))) (h : Q ((n : Int) - 1, -1, n) s) :
    wpAny (model prog w) A (Builtin.Slice.sliceApplied (.ref sl) (pure (n : Int))) Q E s := by
  obtain ⟨os, hos, hcs, hds⟩ := id hs
  obtain ⟨u, rfl⟩ : ∃ u, vk = .int (-1) u := by
    cases vk <;> first | (cases pk; exact ⟨_, rfl⟩) | cases pk
  unfold Builtin.Slice.sliceApplied Builtin.Slice.sliceFields
  refine wpAny_bind (wpAny_bind (wpAny_field hos hds (x := .none) rfl (wpAny_bind (wpAny_field hos hds (x := .none) rfl (wpAny_bind (wpAny_field hos hds (x := .int (-1) u) rfl (wpAny_pure ?_)))))))
  refine wpAny_bind (slicePart_int ?_)
  show wpAny _ _ (if ((-1 : Int) == 0) = true then _ else _) _ _ s
  rw [if_neg (by decide)]
  refine wpAny_bind (slicePart_none (wpAny_bind (slicePart_none (wpAny_bind (wpAny_pure ?_)))))
  show wpAny _ _ (match Builtin.Slice.sliceAdjust none none (-1) (n : Int) with | (lo, hi) => pure (lo, (-1 : Int), Builtin.Slice.slicePlaces lo hi (-1))) _ _ s
  rw [adjust_rev n]
  show wpAny _ _ (pure (((n : Int) - 1), (-1 : Int), Builtin.Slice.slicePlaces ((n : Int) - 1) (-1) (-1))) _ _ s
  rw [places_rev n]
  exact wpAny_pure h
theorem getItem_tuple_rev {t sl : Addr} {items : Array Value} {vk : Value} {Q : Value → Shared → Prop} (ht : IsTup s.heap t items) (hs : s.heap.IsSliceOf sl .none .none vk) (pk : IsPart vk (some (-1)))
    (h : Q (.ref s.heap.objs.size) { s with heap := s.heap.push { cls := .type "tuple", data := .seq items.toList.reverse.toArray } })
    (hsz : items.size ≤ sizeLine) : wpAny (model prog w) A (getItem (.ref t) (.ref sl)) Q E s := by
  have hrev : sizeOk (.seq items.toList.reverse.toArray) := by
    show items.toList.reverse.toArray.size ≤ sizeLine
    rw [List.size_toArray, List.length_reverse, Array.length_toList]
    exact hsz
  obtain ⟨os, hos, hcs, hds⟩ := id hs
  have hTs : s.TypeIs (.ref sl) "slice" := ⟨os, hos, hcs⟩
  unfold getItem
  try with_reducible refine wpAny_holding ?_
  first | refine wpAny_bind (wpAny_pure ?_) | skip
  refine wpAny_bind (wpAny_sequenceKey ht.typeIs (by decide) ?_)
  refine wpAny_bind (wpAny_callSpecial?_slot (name := Str.ofString "__getitem__") ht.typeIs slot_tuple_getitem
    (wpAny_call_entry slot_tuple_getitem ht.typeIs entry_tuple_getitem ?_ (args_tuple_getitem _ _)))
  show wpAny _ _ (Builtin.Tuple.tupleItemsOf (.ref t) >>= _) _ _ s
  refine wpAny_bind (tupleItemsOf_ ht ?_)
  refine wpAny_bind (wpAny_typeOf hTs ?_)
  rw [if_pos (by decide)]
  refine wpAny_bind (sliceApplied_rev hs pk ?_)
  have hno : ¬ (((items.size : Int) - 1 == 0 && (-1 : Int) == 1 && items.size == items.size) = true) := by simp
  show wpAny _ _ (if ((items.size : Int) - 1 == 0 && (-1 : Int) == 1 && items.size == items.size) = true then _ else _) _ _ s
  rw [if_neg hno, pick_rev items]
  first
    | exact wpAny_bind (m := Builtin.Tuple.tupleExact _) (wpAny_newObj_type (wpAny_pure ⟨_, rfl, wpAny_pure h⟩) hrev)
    | exact wpAny_bind (m := Builtin.Tuple.tupleExact _) (wpAny_newObj_type (wpAny_bind (wpAny_pure (wpAny_pure ⟨_, rfl, wpAny_pure h⟩))) hrev)
    | exact wpAny_bind (wpAny_bind (m := Builtin.Tuple.tupleExact _) (wpAny_newObj_type (wpAny_pure (wpAny_pure ⟨_, rfl, wpAny_pure h⟩)) hrev))
    | exact wpAny_bind (wpAny_bind (m := Builtin.Tuple.tupleExact _) (wpAny_newObj_type (wpAny_pure ⟨_, rfl, wpAny_pure h⟩) hrev))
end
end PyProof.Rows
namespace Fli
open PySem PySem.Spec PyProof.Rows L2
variable [HW]
section
variable {X : Cx} {e st : Expr} {te : TE} {ts : TO} {p2 pos : Pos}
def tRevT (K : PySem.W.Frag) (te : TE) (ts : TO) : TE := fun σ H Q => te σ H fun x H1 => ts σ H1 fun o H2 => o = some (-1) ∧ ∃ a xs, x = .ref a ∧ SqT K H2 a xs ∧ ∀ p ob, H2 p = none → FT ob → Q (.ref p) (upd H2 p (.frz ob (.tup xs.reverse)))
theorem pe_revT (he : PE X e te) (hs : PO X (some st) ts) : PE X (.Subscript e (.Slice none none (some st) p2) pos) (tRevT X.K te ts) := by
  refine ⟨fun pins s σ H Q I h => ?_⟩
  refine Subscript_ (thn (he.run pins s σ H _ I h) fun v s1 ⟨x, H1, I1, r1, q1⟩ => ?_)
  refine wpAny_Slice ?_
  rw [evalPart_none]
  refine wpAny_pure ?_
  show wpAny _ _ (evalPart none X.env) _ _ _
  rw [evalPart_none]
  refine wpAny_pure ?_
  refine thn (hs.run pins s1 σ H1 _ I1 q1) fun vk s3 ⟨o, H3, I3, pk, eo, a, xs, ex, hx, q⟩ => ?_
  subst ex
  subst eo
  have I4 : Inv X pins σ H3 { s3 with heap := s3.heap.push { cls := .type "slice", data := .fields #[.none, .none, vk] } } := I3.kept (t' := s3.toks) fun b ob q => Heap.get?_push_of_some _ q
  cases r1
  obtain ⟨its, r, ht, hz⟩ := I4.tuple hx
  have hlen := r.length
  show wpAny (model X.prog X.w) X.A (subscriptTail e (.Slice none none (some st) p2) (.ref a) (.ref s3.heap.objs.size)) (EP X pins σ Q) X.xe { s3 with heap := s3.heap.push { cls := .type "slice", data := .fields #[.none, .none, vk] } }
  have ht' : IsTup (s3.heap.push { cls := .type "slice", data := .fields #[.none, .none, vk] }) a its.toArray := ht
  refine tail_any (ops := [.ref a, .ref s3.heap.objs.size]) ht'.typeIs PyProof.Rows.slot_tuple_getitem.lookup ?_ (by with_unfolding_all rfl)
  refine getItem_tuple_rev ht' (Heap.IsSliceOf.new ..) pk ?_ (by rw [List.size_toArray] <;> omega)
  have I5 := lay_F I4 r.reverse (by rw [List.length_reverse]; exact hz)
  exact ⟨.ref _, _, I5, rfl, q _ _ (I4.hok.fresh (Nat.le_refl _)) ft_new⟩
def revT (o : Option Int) (d : D) : Option D := if o = some (-1) then match d with
  | .tup ds => some (.tup ds.reverse)
  | _ => none
  else none
theorem e_revT {m : M D} {ms : M (Option Int)} (he : DE X e m) (hs : IP X (some st) ms) : DE X (.Subscript e (.Slice none none (some st) p2) pos) (bindM m fun d => bindM ms fun o => optM (revT o d)) := PE.imp (pe_revT he hs) fun σ H Q ⟨sd, W, o, sd', stt, em, q⟩ => by
  obtain ⟨d, s1, e1, em⟩ := bindM_some em
  obtain ⟨l, s2, e2, em⟩ := bindM_some em
  obtain ⟨e3, rfl⟩ := optM_some em
  refine ⟨sd, W, d, s1, stt, e1, fun v H1 W1 st1 k1 r1 => ⟨s1, W1, l, sd', st1, e2, fun H2 W2 st2 k2 => ?_⟩⟩
  have r2 := r1.le k2.le
  unfold revT at e3
  split at e3
  · rename_i hl
    split at e3
    · cases e3
      cases r2 with
      | @tup a vs ds sa r =>
        refine ⟨hl, a, vs, rfl, st_le st2.le sa, fun p ob hp ho => ?_⟩
        obtain ⟨g1, g2⟩ := st2.newV hp (.frz ob (.tup vs.reverse))
        exact q _ _ _ g1 ((k1.trans k2).trans g2) (.tup (.inl ⟨ob, upd_same, ho⟩) (r.rev.le (Le.upd (st2.free hp))))
    · cases e3
  · cases e3
end
end Fli
set_option Elab.async false
set_option linter.all false
set_option maxRecDepth 100000
set_option maxHeartbeats 4000000
namespace Fli
open PySem PySem.Spec PyProof.Rows L2
variable [HW]

/-! exceptions of own classes over a built-in one, whose __init__ says super().__init__("..") and keeps one field -/
abbrev scI (f : Str) : Scope := { kind := .function, names := [(Str.ofString "self", .local), (f, .local), (Str.ofString "__class__", .free), (Str.ofString "super", .globalImplicit)], isGenerator := false, isCoroutine := false, more := [] }
abbrev bdI (f tx : Str) (j : Nat) (p0 p1 p2 p3 p4 p5 p6 p7 p8 p9 : Pos) : List Stmt := [.Expr (.Call (.Attribute (.Call (.Name "super" p0) [] [] p1) "__init__" p2) [.Constant (.str tx) j p3] [] p4) p5, .Assign [.Attribute (.Name "self" p6) f p7] (.Name f p8) p9]
abbrev arI (f : Str) (q0 q1 : Pos) : Arguments := { posonlyargs := [], args := [{ arg := "self", annotation := none, pos := q0 }, { arg := f, annotation := none, pos := q1 }], vararg := none, kwonlyargs := [], kw_defaults := [], kwarg := none, defaults := [] }
/-- a built-in class and what is known of it -/
structure ExB (B newId initId : String) (bmB : List Value) : Prop where
  F : ExcBaseFacts B newId initId bmB
  KF : PySem.W.KxsFacts B initId
  SF : StoreFacts B bmB "object.__setattr__" "object"
/-- what the top has left of the class at C -/
structure ExT (P : Program) (K : PySem.W.Frag) (C : Addr) (f : Str) (B newId initId : String) (bmB : List Value) : Prop where
  eb : ExB B newId initId bmB
  kC : PySem.W.keepIn K (.ref C) = true
  ini : PySem.W.excInitIn K C bmB newId = true
  exC : PySem.W.subIn K (.ref C) (.type "BaseException") = some true
  tyC : PySem.W.typeIn K (.ref C) = some (.type "type")
  sa : PySem.W.findIn K (.ref C) "__setattr__" = some (some (.builtin "object.__setattr__"))
  ov : PySem.W.excOver K C bmB = true
  tk : PySem.W.takerIn K C f = some none
  hd : PySem.W.hasDictIn K C = true
  ga : PySem.W.findIn K (.ref C) "__getattribute__" = some (some (.builtin "BaseException.__getattribute__"))
  gg : PySem.W.findIn K (.ref C) "__getattr__" = some none
  no : PySem.W.findIn K (.ref C) f = some none
  sB : PySem.W.subIn K (.ref C) (.type B) = some true
  sC : PySem.W.mroIn K C (.ref C) = some true
  sup : PySem.W.ks_superIn K C C "__init__" = some (some (.builtin initId))
  op : PySem.W.nsIn K cStatics "thirdparty.any" = some none
  sN : PySem.W.nsIn K mainGlobals "super" = some none
  top : (P.main.scope.names.lookup ("super" : Str)).isSome = false
  fn : ∃ (fI cda cc : Addr) (q tx : Str) (q0 q1 p0 p1 p2 p3 p4 p5 p6 p7 p8 p9 : Pos) (j : Nat) (oc kV doc pm ct ccl cl : Value) (od an cdd cld : Option Addr) (osl ccs csl : Array (Option Value)) (vs : Array Value) (file : Str) (tf : Tok),
    PySem.W.findIn K (.ref C) "__init__" = some (some (.ref fI)) ∧ PySem.W.typeIn K (.ref fI) = some (.type "function") ∧
    K.lookup fI = some ⟨oc, od, .func (PySem.W.fnX "__init__" q (arI f q0 q1) (bdI f tx j p0 p1 p2 p3 p4 p5 p6 p7 p8 p9) (scI f) [("__class__", cc)] .none kV doc pm an (.ref cda) ct), osl⟩ ∧
    PySem.W.codeIn K (.ref cda) q = true ∧ K.lookup cda = some ⟨ccl, cdd, .fields vs, ccs⟩ ∧ vs[2]? = some (.str file tf) ∧ ((P.main.file : Str) == file) = true ∧ (p2.endLine == p4.line) = true ∧ K.lookup cc = some ⟨cl, cld, .cell (some (.ref C)), csl⟩
/-- a field's name -/
structure FdN (f : Str) : Prop where
  S : NdefX.NScope ["self", f, "__class__"] ["self", f] ["__class__"] (scI f)
  su : (scI f).names.lookup ("super" : Str) = some .globalImplicit
  cl : (scI f).names.lookup ("__class__" : Str) = some .free
  se : (scI f).names.lookup ("self" : Str) = some .local
  fl : (scI f).names.lookup f = some .local
  db : (f == ("__debug__" : Str)) = false
  cd : (f == ("__classdict__" : Str)) = false
  bn : ∀ (q : Str) (q0 q1 : Pos) (body : List Stmt) (sc : Scope) (cl : List (Str × Addr)) (kV doc pm cdv ct : Value) (an : Option Addr) (x u : Value), bindArgs (PySem.W.fnX "__init__" q (arI f q0 q1) body sc cl .none kV doc pm an cdv ct) ⟨[x, u], []⟩ = pure [((("self" : Str), x) : Str × Value), (f, u)]
theorem fdn_value : FdN "value" := ⟨NdefX.nscope_by (by decide +kernel), by decide +kernel, by decide +kernel, by decide +kernel, by decide +kernel, by decide +kernel, by decide +kernel, fun _ _ _ _ _ _ _ _ _ _ _ _ _ _ => rfl⟩
theorem fdn_index : FdN "index" := ⟨NdefX.nscope_by (by decide +kernel), by decide +kernel, by decide +kernel, by decide +kernel, by decide +kernel, by decide +kernel, by decide +kernel, fun _ _ _ _ _ _ _ _ _ _ _ _ _ _ => rfl⟩
end Fli
set_option Elab.async false
set_option linter.all false
set_option maxRecDepth 100000
set_option maxHeartbeats 4000000
namespace Fli
open PySem PySem.Spec PyProof.Rows L2
variable [HW]

section
variable {prog : Program} {w : World} {A : Around} {hp : Heap} {g : Array GenState} {dr : Drawn} {t : Nat} {os : OsState} {K : PySem.W.Frag} {C x : Addr} {B : String} {bmB : List Value} {name : Str} {tk : Tok} {v : Value} {fv : Array Value} {R : Result → Shared → Prop}
/-- object.__setattr__ of an exception without a dict -/
theorem osa_first (SF : StoreFacts B bmB "object.__setattr__" "object") (X : K.In hp) (hx : hp.get? x = some { cls := .ref C, data := .fields fv }) (ov : PySem.W.excOver K C bmB = true) (ht : PySem.W.takerIn K C name = some none) (hh : PySem.W.hasDictIn K C = true)
    (hq : ∀ h' tk' dx, (∀ b o, b ≠ x → hp.get? b = some o → h'.get? b = some o) → hp.objs.size ≤ dx → dx ≠ x → h'.get? x = some { cls := .ref C, dict := some dx, data := .fields fv } → h'.Ns1 dx (fun y => if y = name then some v else none) → R (.ok (.ret .none)) ⟨h', g, dr, tk', os⟩) :
    codeAny (model prog w) A (.call (.builtin "object.__setattr__") ⟨[.ref x, .str name tk, v], []⟩) R ⟨hp, g, dr, t, os⟩ := by
  refine PySem.W.osa_openX (od := none) SF X ⟨hx, rfl, rfl, trivial⟩ ov ht fun b => ?_
  obtain ⟨cd, hc, hd⟩ := PySem.W.any_some hh
  have lt : x < hp.objs.size := Heap.lt_size hx
  have hx1 : (hp.push { cls := .type "dict", data := .dict #[] }).get? x = some { cls := .ref C, data := .fields fv } := Heap.get?_push_of_some _ hx
  refine wpAny_bind (wpAny_pure (wpAny_bind ?_))
  show wpAny _ _ (instanceDict x true) _ _ _
  unfold instanceDict
  refine wpAny_bind (wpAny_loadPart hx ?_)
  dsimp only
  refine wpAny_bind ((PySem.W.looks_clsIn X hc).here ?_)
  rw [hd]
  (try dsimp only [Bool.not_true])
  (try rw [if_neg (show ¬ (false = true) from by decide)])
  (try rw [if_neg (by simp [typeHasDict])])
  (try dsimp only)
  refine wpAny_bind (wpAny_alloc (wpAny_bind (wpAny_update hx1 ?_)))
  unfold dictMade
  refine wpAny_pure ?_
  show wpAny _ _ (Builtin.ObjectAttr.storeInDict hp.objs.size (.str name tk) name v) _ _ _
  refine HandSPX.store_in_new ⟨_, #[], _, (Heap.get?_update_ne _ _ _ _ (Nat.ne_of_gt lt)).trans (Heap.get?_push_at rfl rfl), rfl, fun e he => absurd he (by simp), fun _ => rfl⟩ fun h' tk' hn hs => ?_
  refine hq h' tk' hp.objs.size (fun b o hb ho => ?_) (Nat.le_refl _) (Nat.ne_of_gt lt) ?_ hn
  · exact (hs.2 b (Nat.ne_of_lt (Heap.lt_size ho))).trans ((Heap.get?_update_ne _ _ _ _ hb).trans (Heap.get?_push_of_some _ ho))
  · exact (hs.2 x (Nat.ne_of_lt lt)).trans (Heap.get?_update_self _ hx1 rfl)
end
section
variable {X : Cx} {pins : List (Addr × Obj)} {σ : L2.St} {H : Hp} {s : Shared} {a C : Addr} {f : Str} {B newId initId : String} {bmB : List Value} {y : V} {u : Value} {Q : Unit → Shared → Prop} {E : Value → Shared → Prop} {A : Around}
/-- self.f = y, the object's first one -/
theorem first_field (T : ExT X.prog X.K C f B newId initId bmB) (I : Inv X pins σ H s) (e : H a = some (exo a C none)) (ry : RelV y u)
    (h : ∀ dx s', H dx = none → dx ≠ a → Inv X pins σ (upd (upd H dx (exd dx [(f, y)])) a (exo a C (some dx))) s' → Q () s') : wpAny (model X.prog X.w) A (setAttr (.ref a) f u) Q E s := by
  obtain ⟨t1, ho⟩ := exo_at I.hok e
  obtain ⟨hp, g, dr, t, os⟩ := s
  refine PySem.W.set_plain I.kIn (ox := { cls := .ref C, dict := none, data := .fields #[.ref t1, .none, .none, .none, .bool false, .none] }) (od := none) ⟨ho, rfl, rfl, trivial⟩ T.sa (osa_first T.eb.SF I.kIn ho T.ov T.tk T.hd fun h' tk' dx k dn dne hx hn => ?_)
  have nH : H dx = none := I.hok.fresh dn
  have far : ∀ {b : Addr} {o : Obj}, hp.get? b = some o → b ≠ dx := fun q => Nat.ne_of_lt (Nat.lt_of_lt_of_le (Heap.lt_size q) dn)
  have off : ∀ {b : Addr}, H b = none → b ≠ a := fun n z => by rw [z, e] at n; cases n
  have U : Un X.fs [] H (upd (upd H dx (exd dx [(f, y)])) a (exo a C (some dx))) hp h' := by
    refine ⟨fun b o q n _ _ => k b o (off n) q, fun b o q n _ _ => ⟨o.slots, k b o (off n) q⟩, fun b o q n _ => ?_, fun b o q _ => ?_, fun b zs q => ?_, fun b o z q => ?_, fun b ps q => ⟨#[], ?_⟩⟩
    · rw [upd_ne (off n), upd_ne (far q)]; exact n
    · by_cases z : b = a
      · exact ⟨_, by rw [z]; exact hx⟩
      · exact ⟨o, k b o z q⟩
    · rw [upd_ne (at_ne e q exo_tup), upd_ne (ne_of_none q nH)]; exact q
    · rw [upd_ne (at_ne e q exo_frz), upd_ne (ne_of_none q nH)]; exact q
    · rw [upd_ne (at_ne e q exo_tbl), upd_ne (ne_of_none q nH), q]; simp
  refine h dx _ nH dne (I.un (t' := tk') U fun b o q => ?_)
  by_cases hb : b = a
  · subst hb
    rw [upd_same] at q
    cases q
    exact exo_ok hx
  · rw [upd_ne hb] at q
    by_cases hd : b = dx
    · subst hd
      rw [upd_same] at q
      cases q
      exact exd_ok hn (relO_put (fs := []) ry fun _ => True.intro)
    · rw [upd_ne hd] at q
      refine (I.hok b o q).stay (fun c z hc w => k c z ?_ w) (fun c hc => ?_) fun c zs hc => ?_
      · rcases hc with hc | hc
        · rw [hc]; exact hb
        · exact at_ne e hc exo_own
      · rw [upd_ne (at_ne e hc exo_own), upd_ne (ne_of_none hc nH)]; exact hc
      · rw [upd_ne (at_ne e hc exo_tup), upd_ne (ne_of_none hc nH)]; exact hc
/-- the built-in's __init__, bound to the object at u, called: nothing of it is told -/
theorem bound_init {m : Addr} {us : List Value} {Q : Value → Shared → Prop} (T : ExT X.prog X.K C f B newId initId bmB) (I : Inv X pins σ H s) (e : H a = some (exo a C none)) (hm : s.heap.get? m = some (PySem.W.kxs_mw initId a)) (hl : us.length ≤ sizeLine) (h : ∀ s', Inv X pins σ H s' → Q .none s') :
    wpAny (model X.prog X.w) A (call (.ref m) us) Q E s := by
  obtain ⟨nm, N, qn, bs, bm, hdct, sn, sub, ab, col, dd, k0, k1, k2, k3, k5, hC, hT⟩ := PySem.W.excInit_of I.kIn T.ini
  obtain ⟨t1, ho⟩ := exo_at I.hok e
  obtain ⟨hp, g, dr, tk, os⟩ := s
  refine wpAny_call (codeAny_of_tree ?_)
  show wpAny _ A.in1 (callAny (.ref m) ⟨us, []⟩) _ _ _
  simp only [callAny]
  refine wpAny_bind (wpAny_load hm ?_)
  simp only [PySem.W.kxs_mw, show (Value.type "method-wrapper" == Value.type "method" || Value.type "method-wrapper" == Value.type "builtin_function_or_method" || Value.type "method-wrapper" == Value.type "method-wrapper") = true by decide, if_true]
  refine PySem.W.KFB.if_so (by decide) ?_
  refine wpAny_bind (PySem.W.check_bound_init T.eb.F.toExcCallFacts hC ho rfl (wpAny_bind (wpAny_pure (wpAny_pure ?_))))
  refine ⟨plainId_quiet T.eb.F.init.plain _, codeAny_builtin T.eb.F.initEntry ?_⟩
  refine PySem.W.exc_init_tree (cls := .ref C) (t0 := t1) (dv := none) (c2 := .none) (c3 := .none) (b4 := .bool false) ho hl fun h' k he ht => ?_
  have J := I.write (t' := tk) (x := a) (e := a) (o := exo a C none) (by rw [e]; exact True.intro) (.inl rfl) k ⟨_, he⟩ (exo_ok he)
  have eu : upd H a (exo a C none) = H := by
    funext b
    by_cases hb : b = a
    · rw [hb, upd_same, e]
    · rw [upd_ne hb]
  rw [eu] at J
  exact h _ J
end
end Fli
set_option Elab.async false
set_option linter.all false
set_option maxRecDepth 100000
set_option maxHeartbeats 4000000
namespace Fli
open PySem PySem.Spec PyProof.Rows L2
variable [HW]

section
variable {X : Cx} {C : Addr} {f : Str} {B newId initId : String} {bmB : List Value} {o e : Expr} {to te : TE} {p' pos : Pos}
/-- self.f = e, the first one of an exception -/
theorem ps_first (T : ExT X.prog X.K C f B newId initId bmB) (ho : PE X o to) (he : PE X e te) (hs : swapsWith e (some (.Attribute o f p')) pos.line X.env = pure false := by rfl) :
    PS X (.Assign [.Attribute o f p'] e pos) (fun D σ H => te σ H fun y H1 => to σ H1 fun x H2 => ∃ a : Addr, x = .ref a ∧ H2 a = some (exo a C none) ∧ ∀ dx, H2 dx = none → dx ≠ a → D.nx σ (upd (upd H2 dx (exd dx [(f, y)])) a (exo a C (some dx)))) := by
  refine ⟨fun pins s σ H D I h => plainObj_wpAny_Assign_Attribute (thn (he.run pins s σ H _ I h) fun v s1 ⟨y, H1, I1, r1, q1⟩ => thn (ho.run pins s1 σ H1 _ I1 q1) fun u s2 ⟨x, H2, I2, r2, a, ex, ea, q⟩ => ?_) hs⟩
  subst ex
  obtain rfl : u = Value.ref a := r2
  exact first_field T I2 ea r1 fun dx s' n ne J => ⟨σ, _, J, q dx n ne⟩
end
section
variable {P : Program} {w : World} {K : PySem.W.Frag} {mg : Str → Option Value} {base : Heap} {C : Addr} {f : Str} {B newId initId : String} {bmB : List Value} {fI cda cc : Addr} {q tx : Str} {q0 q1 p0 p1 p2 p3 p4 p5 p6 p7 p8 p9 : Pos} {j : Nat} {oc kV doc pm ct ccl cl : Value} {od an cdd cld : Option Addr} {osl ccs csl : Array (Option Value)} {vs : Array Value} {file : Str} {tf : Tok}
theorem init_run (N : FdN f) (T : ExT P K C f B newId initId bmB)
    (lk : K.lookup fI = some ⟨oc, od, .func (PySem.W.fnX "__init__" q (arI f q0 q1) (bdI f tx j p0 p1 p2 p3 p4 p5 p6 p7 p8 p9) (scI f) [("__class__", cc)] .none kV doc pm an (.ref cda) ct), osl⟩)
    (hcd : PySem.W.codeIn K (.ref cda) q = true) (hk : K.lookup cda = some ⟨ccl, cdd, .fields vs, ccs⟩) (hv : vs[2]? = some (.str file tf)) (hf : ((P.main.file : Str) == file) = true) (hl0 : (p2.endLine == p4.line) = true) (hcc : K.lookup cc = some ⟨cl, cld, .cell (some (.ref C)), csl⟩)
    {k : Nat} {A : Around} {outer : List Env} {s : Shared} {H : Hp} {a : Addr} {y : V} {u : Value} {Q : VK} (hr : Room k A) (e0 : Env0 P w K mg base A outer s H) (ea : H a = some (exo a C none)) (ry : RelV y u)
    (hq : ∀ d, H d = none → d ≠ a → Q .non (upd (upd H d (exd d [(f, y)])) a (exo a C (some d)))) :
    codeAny (model P w) A (.call (.ref fI) ⟨[.ref a, u], []⟩) (CR CX0 outer P w H s Q E0) s := by
  have inK : K.In s.heap := e0.mod.kin.keeps fun b o z => (e0.bs b o z).1
  have free : s.heap.NoLimit := e0.mod.nolimit.keeps fun b o z => (e0.bs b o z).1
  have nCell : H cc = none := (e0.bs cc _ (e0.mod.kin cc _ hcc)).2
  refine PySem.ks_codeAny_call_defAt (fd := PySem.W.fnX "__init__" q (arI f q0 q1) (bdI f tx j p0 p1 p2 p3 p4 p5 p6 p7 p8 p9) (scI f) [("__class__", cc)] .none kV doc pm an (.ref cda) ct) (body := bdI f tx j p0 p1 p2 p3 p4 p5 p6 p7 p8 p9) (binds := [("self", .ref a), (f, u)])
    hr.depth (inK _ _ lk) rfl free (PySem.W.codeRec_of inK hcd) rfl (BindsTo.of_eq (N.bn ..)) N.S.nocell (fun z hz => ?_) (fun h1 hns hk1 => ?_)
  · rcases List.mem_cons.mp hz with rfl | hz
    · exact N.se
    · rw [List.mem_singleton.mp hz]; exact N.fl
  let F : NdefX.NF := ⟨"__init__", q, arI f q0 q1, bdI f tx j p0 p1 p2 p3 p4 p5 p6 p7 p8 p9, scI f, [("__class__", cc)], cda⟩
  have lo : ∀ (z : Str) (c : Addr), F.cl.lookup z = some c → z = Str.ofString "__class__" ∧ c = cc := fun z c e => by
    have e : (match z == Str.ofString "__class__" with | true => some cc | false => none) = some c := e
    split at e
    · rename_i h
      cases e
      exact ⟨eq_of_beq h, rfl⟩
    · cases e
  have isC : s.heap.IsCell cc (some (.ref C)) := ⟨_, inK cc _ hcc, rfl⟩
  have cells : NdefX.CellsAt F.cl ["__class__"] [none] s.heap H := by
    refine ⟨rfl, fun z c e => ?_, fun z1 z2 c e1 e2 => ?_, fun i z e => ?_⟩
    · obtain ⟨_, rfl⟩ := lo z c e
      exact ⟨nCell, _, isC⟩
    · rw [(lo _ _ e1).1, (lo _ _ e2).1]
    · cases i with
      | zero =>
        cases e
        exact ⟨cc, rfl, fun v h => nomatch h⟩
      | succ i => cases e
  have I : Inv (NdefX.ncx CX0 P w K mg base ["self", f, "__class__"] F fI A outer s H E0) [] (NdefX.startF ["self", f, "__class__"] [.ref a, y] [none]) H { s with heap := h1, toks := s.toks + 2 } :=
    NdefX.inv_startN (ps := ["self", f]) (us := [.ref a, u]) N.S hr.hd e0 rfl (.cons rfl (.cons ry .nil)) cells hns hk1
  have J := I
  have inK1 : K.In h1 := fun b o z => hk1 b o (inK b o z)
  obtain ⟨t1, ho⟩ := exo_at e0.hok ea
  have ho1 := hk1 _ _ ho
  obtain ⟨nm, Nd, qn, bs, bm, hdct, sn, sub, ab, col, dd, k0, k1, k2, k3, k5, hC, hT⟩ := PySem.W.excInit_of inK1 T.ini
  obtain ⟨m, hn, hl⟩ := I.loc
  have self : m (Str.ofString "self") = some (.ref a) := by
    obtain ⟨z, rz, lk⟩ := hl 0 "self" (.ref a) rfl rfl (.inl N.se)
    rcases lk with ⟨_, e⟩ | ⟨h, _⟩
    · rw [e]
      exact congrArg some rz
    · have h0 : (scI f).names.lookup ("self" : Str) = some .local := N.se
      rcases h with h | h <;> · have h : (scI f).names.lookup ("self" : Str) = _ := h; rw [h0] at h; cases h
  let env := NdefX.envF F fI s.heap.objs.size
  have he : eval (.Call (.Attribute (.Call (.Name "super" p0) [] [] p1) "__init__" p2) [.Constant (.str tx) j p3] [] p4) env = (do
      let ov ← attributeBase (.Call (.Name "super" p0) [] [] p1) "__init__" env (eval (.Call (.Name "super" p0) [] [] p1) env)
      standAt p2.atName
      let (g, first) ← holding [ov] (getMethod ov "__init__" (L2.plainOf (.Call (.Name "super" p0) [] [] p1) env))
      callWith p4 g first (backTo p4 (starEach [.Constant (.str tx) j p3] env)) []) := by
    show (attributeBase _ _ _ _ >>= fun ov => standAt p2.atName >>= fun _ => methodCall (.Call (.Name "super" p0) [] [] p1) "__init__" p2 p4 env ov 1 (backTo p4 (starEach [.Constant (.str tx) j p3] env)) []) = _
    congr 1
    funext ov
    congr 1
    funext _
    exact L2.mcall_line rfl hl0
  refine PySem.ks_wpAt_execs_cons (PySem.ks_wpAt_Expr_any (PySem.ks_wpAt_MethodCall (he := he) (PySem.ks_wpAt_super_base (cc := cda) (ar := { arg := "self", annotation := none, pos := q0 }) N.su N.cl (by decide +kernel) rfl (hk1 _ _ (inK _ _ lk)) rfl rfl rfl (hk1 _ _ (inK _ _ hk)) rfl hv hf T.top ?_)))
  have isA : PySem.W.InstAt h1 a _ C none := ⟨ho1, rfl, rfl, trivial⟩
  obtain ⟨mb, hb, hbb⟩ := I.mod.blt
  refine PySem.W.ks_loadName_global rfl N.su (Calls.loadGlobal_builtin (env := env) (mg := mg) (I.mod.glob.keeps I.bk) (PySem.W.mg_none_of inK1 (I.mod.glob.keeps I.bk) T.sN) (hb.keeps I.bk) ((hbb _ (by decide)).trans (by decide +kernel : bootBuiltins (Str.ofString "super") = some (.type "super"))) ⟨rfl, ?_⟩)
  refine wpAny_loadName_free rfl N.cl rfl ⟨_, inK1 _ _ hcc, rfl⟩ (wpAny_loadName_local rfl N.se hn self ?_)
  refine PySem.ks_wpAny_isType_cls hC rfl ⟨rfl, PySem.ks_wpAny_call_super hC rfl ho1 rfl (fun _ z => nomatch z) (PySem.W.looks_mroIn inK1 T.sC) fun h2 e2 hk2 => ?_⟩
  have inK2 : K.In h2 := fun b o z => hk2 b o (inK1 b o z)
  have I2 : Inv _ [] _ H { s with heap := h2, toks := s.toks + 2 } := I.kept (t' := s.toks + 2) hk2
  have isA2 : PySem.W.InstAt h2 a _ C none := ⟨hk2 _ _ ho1, rfl, rfl, trivial⟩
  have sup := T.sup
  cases hc : PySem.W.clsIn K C with
  | none =>
    unfold PySem.W.ks_superIn at sup
    rw [hc] at sup
    cases sup
  | some cdC =>
    unfold PySem.W.ks_superIn at sup
    rw [hc] at sup
    refine PySem.W.kxs_getMethod T.eb.KF e2 (PySem.W.looks_opaque inK2 T.op) (l₀ := cdC.mro) (fun _ _ _ _ kk qq => wpAny_bind ((PySem.W.looks_clsIn inK2 hc) _ _ _ _ kk (wpAny_pure qq))) rfl inK2 sup (isA2.type.andThen (PySem.W.looks_subIn inK2 T.sB)) (PySem.W.ks_ne inK2 isA2 hc) (by decide +kernel) ?_
    have hk3 : ∀ b o, h2.get? b = some o → (h2.push (PySem.W.kxs_mw initId a)).get? b = some o := fun b o z => Heap.get?_push_of_some _ z
    have hm3 : (h2.push (PySem.W.kxs_mw initId a)).get? h2.objs.size = some (PySem.W.kxs_mw initId a) := Heap.get?_push_at rfl rfl
    refine PySem.W.kxs_callWith (i := initId) (x := a) rfl (Calls.evalArgs_plain (Calls.spliced_cons (Calls.Constant_str (k := j) (pos := p3) (Calls.spliced_nil ⟨hm3, ?_⟩))))
    refine bound_init T ((I2.kept (t' := s.toks + 3) hk3).tok _) ea hm3 (by show 1 ≤ sizeLine; rw [sizeLine_eq]; omega) fun s' J => ?_
    refine wpAt_of_wpAny (wpAny_mono ((pss_one (ps_first T (pe_var (i := 0) rfl (.inl N.se)) (pe_var (i := 1) rfl (.inl N.fl) N.db N.cd))).run [] s' _ H { nx := fun _ H' => Q .non H', rt := fun _ _ => False, bk := fun _ _ => False, ct := fun _ _ => False } J ⟨y, rfl, .ref a, rfl, a, rfl, ea, hq⟩) (fun fl s2 hs => ?_) fun _ _ z => z)
    cases fl with
    | next =>
      obtain ⟨σ', H', J', q⟩ := hs
      exact ⟨.non, H', J'.os, J'.bare, J'.base, J'.hok, rfl, q⟩
    | ret v =>
      obtain ⟨_, _, _, _, _, q⟩ := hs
      exact q.elim
    | brk =>
      obtain ⟨_, _, _, q⟩ := hs
      exact q.elim
    | cont =>
      obtain ⟨_, _, _, q⟩ := hs
      exact q.elim
end
end Fli
set_option Elab.async false
set_option linter.all false
set_option maxRecDepth 100000
set_option maxHeartbeats 4000000
namespace Fli
open PySem PySem.Spec PyProof.Rows L2
variable [HW]

section
variable {X : Cx} {C : Addr} {f x : Str} {B newId initId : String} {bmB : List Value} {e : Expr} {ta : TA} {p pos : Pos} {k : Nat}
/-- C(e), C's own __init__ being as told -/
theorem pmk_ex (N : FdN f) (T : ExT X.prog X.K C f B newId initId bmB) (hr : Room (k + 1) X.A) (hg : Gl X x) (hm : X.mg x = some (.ref C)) (ha : PA X [e] ta) (hdb : (x == ("__debug__" : Str)) = false := by decide)
    (he : starEach [e] X.env = (false, eval e X.env) :: starEach [] X.env := by rfl) (hpl : (backTo pos (starEach [] X.env)).any (·.1) = false := by rfl) :
    PMk X (.Call (.Name x p) [e] [] pos) (fun σ H Q => ta σ H fun vs H1 => ∃ v, vs = [v] ∧ ∀ d, H1 d = none → Q (.ref C) (some d) (upd H1 d (.xd [(f, v)]))) := by
  intro pins s σ H Q I h
  obtain ⟨fI, cda, cc, q, tx, q0, q1, p0, p1, p2, p3, p4, p5, p6, p7, p8, p9, j, oc, kV, doc, pm, ct, ccl, cl, od, an, cdd, cld, osl, ccs, csl, vs, file, tf, iC, tI, lk, hcd, hk, hv, hf, hl0, hcc⟩ := T.fn
  refine wpAny_Call_Name_kw (ld_glob I hg hm ?_ hdb)
  refine PySem.W.callWith_K (h₀ := X.base) I.ok.mod.kin T.kC (thn (ha.run pos pins s σ H _ I h) fun us s1 ⟨vs, H1, I1, r1, y, ev, q1⟩ => ⟨I1.kIn, ?_⟩) he hpl
  subst ev
  obtain ⟨u, rfl, ry⟩ := vals1 r1
  show wpAny _ _ (call (.ref C) [u]) _ _ _
  obtain ⟨hp, g, dr, tk, os⟩ := s1
  obtain ⟨nm, Nd, qn, bs, bm, hdct, sn, sub, ab, col, dd, k0, k1, k2, k3, k5, hC, hT⟩ := PySem.W.excInit_of I1.kIn T.ini
  have hsz : hp.objs.size ≤ hp.objs.size + 1 := Nat.le_succ _
  have hn : H1 (hp.objs.size + 1) = none := I1.hok.fresh hsz
  have two : ∀ b o, hp.get? b = some o → ((hp.push (PySem.W.kdv_tup [u])).push (PySem.HandSPX.excO C hp.objs.size)).get? b = some o := fun b o z => Heap.get?_push_of_some _ (Heap.get?_push_of_some _ z)
  have new : ((hp.push (PySem.W.kdv_tup [u])).push (PySem.HandSPX.excO C hp.objs.size)).get? (hp.objs.size + 1) = some (PySem.HandSPX.excO C hp.objs.size) := by heap_get
  have I2 := I1.laid (t' := tk) (a := hp.objs.size + 1) (o := exo (hp.objs.size + 1) C none) (h' := (hp.push (PySem.W.kdv_tup [u])).push (PySem.HandSPX.excO C hp.objs.size)) two hsz (exo_ok new)
  refine wpAny_call (PySem.HandSPX.call_own T.eb.F hT hC (PySem.W.looks_findIn I1.kIn iC) (fun self => PySem.W.bind_fn I1.kIn self tI) (by show 1 ≤ sizeLine; rw [sizeLine_eq]; omega)
    (codeAny_mono (init_run (P := X.prog) (w := X.w) (K := X.K) (mg := X.mg) (base := X.base) (A := X.A.under (.builtin "type.__call__" ⟨.ref C :: [u], []⟩)) (outer := X.stack) (a := hp.objs.size + 1) (y := y) (u := u)
      (Q := fun v H2 => v = .non ∧ ∃ d, H1 d = none ∧ d ≠ hp.objs.size + 1 ∧ H2 = upd (upd (upd H1 (hp.objs.size + 1) (exo (hp.objs.size + 1) C none)) d (exd d [(f, y)])) (hp.objs.size + 1) (exo (hp.objs.size + 1) C (some d)))
      N T lk hcd hk hv hf hl0 hcc (hr.make C [u] []) (I2.env0.make C [u] []) upd_same ry (fun d hd ne => ⟨rfl, d, by rw [upd_ne ne] at hd; exact hd, ne, rfl⟩)) fun r s' hq' => ?_))
  cases r with
  | error er => exact False.elim hq'
  | ok fl =>
    cases fl with
    | ret w =>
      obtain ⟨v, H2, os2, bare2, un2, hok2, rv, ev, d, hd1, ne, eH⟩ := hq'
      subst ev
      obtain ⟨h2, g2, d2, t2, os'⟩ := s'
      have ea : H2 (hp.objs.size + 1) = some (exo (hp.objs.size + 1) C (some d)) := by rw [eH, upd_same]
      have ed : H2 d = some (exd d [(f, y)]) := by rw [eH, upd_ne ne, upd_same]
      have eq : upd (del H2 (hp.objs.size + 1)) d (.xd [(f, y)]) = upd H1 d (.xd [(f, y)]) := by
        funext b
        by_cases hb : b = d
        · rw [hb, upd_same, upd_same]
        · rw [upd_ne hb, upd_ne hb]
          by_cases hb2 : b = hp.objs.size + 1
          · rw [hb2, del_same, hn]
          · rw [del_ne hb2, eH, upd_ne hb2, upd_ne hb, upd_ne hb2]
      exact ⟨rv, mk_end (raises_own T.exC T.tyC) I1 hsz two un2 hok2 os2 bare2 ea ed hd1 (by rw [eq]; exact q1 d hd1)⟩
    | next => exact False.elim hq'
    | brk => exact False.elim hq'
    | cont => exact False.elim hq'
/-- a class without an __init__ of its own -/
structure ExZ (K : PySem.W.Frag) (C : Addr) (B newId initId : String) (bmB : List Value) : Prop where
  F : ExcBaseFacts B newId initId bmB
  kC : PySem.W.keepIn K (.ref C) = true
  ini : PySem.W.excInitIn K C bmB newId = true
  exC : PySem.W.subIn K (.ref C) (.type "BaseException") = some true
  tyC : PySem.W.typeIn K (.ref C) = some (.type "type")
  it : PySem.W.findIn K (.ref C) "__init__" = some (some (.builtin initId))
end
end Fli
set_option Elab.async false
set_option linter.all false
set_option maxRecDepth 100000
set_option maxHeartbeats 4000000
namespace Fli
open PySem PySem.Spec PyProof.Rows L2
variable [HW]

/-! what is raised: a mirror of its own, beside the one of what is returned -/
structure Exn where
  c : Str
  fs : List (Str × D)
abbrev R := S → Option (Exn × S)
section
variable (K : PySem.W.Frag) (mg : Str → Option Value)
/-- the exception x, its class and its dict -/
def ExR (W : Hp) (x : Exn) (cls : Value) (d : Option Addr) : Prop := ∃ C, mg x.c = some (.ref C) ∧ cls = .ref C ∧ ((x.fs = [] ∧ d = none) ∨ x.fs ≠ [] ∧ ∃ dd gs, d = some dd ∧ W dd = some (.xd gs) ∧ DFs K mg W gs x.fs)
/-- a statement raises -/
def tX (pr : List Nat) (r : R) (Wi : WX) (σ : L2.St) (H : Hp) : Prop := ∃ sd W x s', St K mg sd σ H W ∧ r sd = some (x, s') ∧
  ∀ cls d σ' H' W', St K mg s' σ' H' W' → Kp sd σ H W s' σ' H' W' → Pr pr σ σ' → ExR K mg W' x cls d → Wi cls d σ' H'
/-- an expression raises -/
def tXe (r : R) (Wi : WX) (σ : L2.St) (H : Hp) : Prop := ∃ sd W x s', St K mg sd σ H W ∧ r sd = some (x, s') ∧
  ∀ cls d H' W', St K mg s' σ H' W' → Kp sd σ H W s' σ H' W' → ExR K mg W' x cls d → Wi cls d σ H'
end
theorem tX.e {K : PySem.W.Frag} {mg : Str → Option Value} {pr : List Nat} {r : R} {Wi : WX} {σ : L2.St} {H : Hp} (h : tX K mg pr r Wi σ H) : tXe K mg r Wi σ H := by
  obtain ⟨sd, W, x, s', st, e, q⟩ := h
  exact ⟨sd, W, x, s', st, e, fun cls d H' W' st' k xr => q cls d σ H' W' st' k Pr.refl xr⟩
abbrev RX (X : Cx) (e : Expr) (r : R) : Prop := ∀ Wi, Takes X Wi → PE X e fun σ H _ => tXe X.K X.mg r Wi σ H
abbrev RS (X : Cx) (pr : List Nat) (st : Stmt) (r : R) : Prop := ∀ Wi, Takes X Wi → PS X st fun _ σ H => tX X.K X.mg pr r Wi σ H
abbrev RSs (X : Cx) (pr : List Nat) (sts : List Stmt) (r : R) : Prop := ∀ Wi, Takes X Wi → PSs X sts fun _ σ H => tX X.K X.mg pr r Wi σ H
theorem PS.ofNox {X : Cx} {st : Stmt} {t : TS} (h : PS X.nox st t) : PS X st t := ⟨fun pins s σ H D I q => wpAny_mono (h.run pins s σ H D (I.wish _) q) (fun fl s1 z => z.unwish) fun _ _ z => z.elim⟩
theorem pss_no {X : Cx} {st : List Stmt} : PSs X st fun _ _ _ => False := ⟨fun _ _ _ _ _ _ q => q.elim⟩
def noR : R := fun _ => none
section
variable {X : Cx} {pr : List Nat} {e a b tg : Expr} {s : Stmt} {ss tt uu : List Stmt} {pos p p2 : Pos} {r r1 r2 : R} {m : MS} {me : M D} {mc : M Bool}
theorem rss_no : RSs X pr ss noR := fun _ _ => ⟨fun _ _ _ _ _ _ ⟨_, _, _, _, _, em, _⟩ => nomatch em⟩
/-- e raises, as a statement, a value stored, a value returned -/
theorem rs_expr (h : RX X e r) (hs : swapsWith e none pos.line X.env = pure false := by rfl) : RS X pr (.Expr e pos) r := fun Wi tk => PS.imp (ps_expr (h Wi tk) hs) fun _ _ _ q => q.e
theorem rs_ret (h : RX X e r) : RS X pr (.Return (some e) pos) r := fun Wi tk => PS.imp (ps_ret (h Wi tk)) fun _ _ _ q => q.e
/-- one of both branches raises -/
def ifR (c : M Bool) (a b : R) : R := fun s => (c s).bind fun q => if q.1 = true then a q.2 else b q.2
theorem rs_if (hc : BT X e mc) (ha : RSs X pr tt r1) (hb : RSs X pr uu r2) : RS X pr (.If e tt uu pos) (ifR mc r1 r2) := fun Wi tk => PS.imp (ps_if hc (ha Wi tk) (hb Wi tk)) fun D σ H ⟨sd, W, x, s', st, em, q⟩ => by
  simp only [ifR, Option.bind_eq_some_iff] at em
  obtain ⟨⟨k, s1⟩, e1, em⟩ := em
  refine ⟨sd, W, k, s1, st, e1, fun H1 W1 st1 k1 => ?_⟩
  cases k with
  | true => exact ⟨s1, W1, x, s', st1, em, fun cls d σ' H' W' st' k' p' xr => q cls d σ' H' W' st' (k1.trans k') p' xr⟩
  | false => exact ⟨s1, W1, x, s', st1, em, fun cls d σ' H' W' st' k' p' xr => q cls d σ' H' W' st' (k1.trans k') p' xr⟩
/-- the first one raises, or the others behind it -/
def seqR (r1 : R) (m : MS) (r2 : R) : R := fun s => match r1 s with
  | some x => some x
  | none => (m s).bind fun o => match o with
    | .nx s1 => r2 s1
    | _ => none
theorem rss_cons (h1 : RS X pr s r1) (hn : SE X.nox pr s m) (h2 : RSs X pr ss r2) : RSs X pr (s :: ss) (seqR r1 m r2) := fun Wi tk => by
  have hn1 : SE X pr s m := PS.ofNox hn
  have a1 := pss_cons (h1 Wi tk) (pss_no (X := X) (st := ss))
  have a2 := pss_cons hn1 (h2 Wi tk)
  refine ⟨fun pins s σ H D I ⟨sd, W, x, s', st, em, q⟩ => ?_⟩
  unfold seqR at em
  split at em
  · rename_i x1 e1
    cases em
    exact a1.run pins s σ H D I ⟨sd, W, x, s', st, e1, q⟩
  · simp only [Option.bind_eq_some_iff] at em
    obtain ⟨o, e2, em⟩ := em
    cases o with
    | nx s1 => exact a2.run pins s σ H D I ⟨sd, W, .nx s1, st, e2, fun σ1 H1 W1 st1 k1 p1 => ⟨s1, W1, x, s', st1, em, fun cls d σ' H' W' st' k' p' xr => q cls d σ' H' W' st' (k1.trans k') (p1.trans p') xr⟩⟩
    | _ => cases em
/-- raise C(e) -/
def raiseR (c f : Str) (m : M D) : R := fun s => (m s).bind fun q => some (⟨c, [(f, q.1)]⟩, q.2)
theorem rs_raise {C : Addr} {c f : Str} {B newId initId : String} {bmB : List Value} {k : Nat} {p1 : Pos} (N : FdN f) (T : ExT X.prog X.K C f B newId initId bmB) (hr : Room (k + 1) X.A) (hg : Gl X c) (hm : X.mg c = some (.ref C)) (he : DE X e me) (hc : X.calm = true)
    (hdb : (c == ("__debug__" : Str)) = false := by decide) (hse : starEach [e] X.env = (false, eval e X.env) :: starEach [] X.env := by rfl) (hpl : (backTo p1 (starEach [] X.env)).any (·.1) = false := by rfl) :
    RS X pr (.Raise (some (.Call (.Name c p) [e] [] p1)) none pos) (raiseR c f me) := fun Wi tk => PS.imp (ps_raise hc tk (pmk_ex N T hr hg hm (pa_cons he pa_nil hse) hdb hse hpl)) fun D σ H ⟨sd, W, x, s', st, em, q⟩ => by
  simp only [raiseR, Option.bind_eq_some_iff] at em
  obtain ⟨⟨d, s1⟩, e1, em⟩ := em
  cases em
  refine ⟨sd, W, d, s1, st, e1, fun v H1 W1 st1 k1 r1 => ⟨v, rfl, fun dd hd => ?_⟩⟩
  obtain ⟨g1, g2⟩ := st1.newV hd (.xd [(f, v)])
  exact q (.ref C) (some dd) σ _ _ g1 (k1.trans g2) Pr.refl ⟨C, hm, rfl, .inr ⟨by simp, dd, _, rfl, upd_same, .cons (r1.le (Le.upd (st1.free hd))) .nil⟩⟩
end
/-! a loop whose body raises -/
def rloop (asg : D → S → Option S) (m : MS) (rb : R) : List D → R
  | [], _ => none
  | d :: ds, s => (asg d s).bind fun s1 => match rb s1 with
    | some x => some x
    | none => (m s1).bind fun o => match o with
      | .nx s2 => rloop asg m rb ds s2
      | .ct s2 => rloop asg m rb ds s2
      | _ => none
def forER (mi : M D) (fs : List D → S → Option S) (m : MS) (rb : R) : R := fun s => (mi s).bind fun q => (tupLs q.1).bind fun ds => rloop (tupF 2 fs) m rb (enumD ds) q.2
section
variable {K : PySem.W.Frag} {mg : Str → Option Value} {pr : List Nat} {D : Ends} {sd : S} {σ : L2.St} {H W : Hp} {x : Exn} {se : S} {gs : TGs} {fs : List Fli.D → S → Option S} {m : MS} {rb : R} {Wi : WX}
def RTurn (K : PySem.W.Frag) (mg : Str → Option Value) (pr : List Nat) (sd : S) (σ : L2.St) (H W : Hp) (asg : Fli.D → S → Option S) (m : MS) (rb : R) (items : List Fli.D) (x : Exn) (se : S) (i : Nat) (σ' : L2.St) (H' : Hp) : Prop :=
  ∃ sd' W', St K mg sd' σ' H' W' ∧ Kp sd σ H W sd' σ' H' W' ∧ Pr pr σ σ' ∧ rloop asg m rb (items.drop i) sd' = some (x, se)
theorem RTurn.oneE {items : List Fli.D} {i : Nat} {d : Fli.D} {y : V} {σ' : L2.St} {H' : Hp} {T : Addr} (hg : TGs' K mg pr gs fs) (q : ∀ cls d σ' H' W', St K mg se σ' H' W' → Kp sd σ H W se σ' H' W' → Pr pr σ σ' → ExR K mg W' x cls d → Wi cls d σ' H')
    (hd : items[i]? = some (.tup [.int (i : Int), d])) (t : RTurn K mg pr sd σ H W (tupF 2 fs) m rb items x se i σ' H') (hx : ∀ W', Le W W' → DR K mg W' y d) (hT : H' T = none) :
    gTup K 2 gs (.ref T) σ' (upd H' T (.tup [.int (i : Int), y])) fun σ2 H2 => (tM K mg pr m { nx := RTurn K mg pr sd σ H W (tupF 2 fs) m rb items x se (i + 1), rt := D.rt, bk := D.nx, ct := RTurn K mg pr sd σ H W (tupF 2 fs) m rb items x se (i + 1) } σ2 H2) ∨ tX K mg pr rb Wi σ2 H2 := by
  obtain ⟨sd', W', st, k, p, em⟩ := t
  have hl : i < items.length := (List.getElem?_eq_some_iff.mp hd).1
  have hd' : items[i] = .tup [.int (i : Int), d] := (List.getElem?_eq_some_iff.mp hd).2
  rw [List.drop_eq_getElem_cons hl, hd'] at em
  simp only [rloop, Option.bind_eq_some_iff] at em
  obtain ⟨s1, e1, em⟩ := em
  obtain ⟨g1, g2⟩ := st.newO hT (.tup [.int (i : Int), y])
  have e1 : fs [.int (i : Int), d] sd' = some s1 := e1
  refine ⟨T, _, rfl, .inl (.inl upd_same), rfl, hg _ _ sd' s1 σ' _ W' g1 (.cons (.int _) (.cons (hx W' k.le) .nil)) e1 _ fun σ1 H1 W1 st1 k1 p1 => ?_⟩
  have k' := (k.trans g2).trans k1
  have p' := p.trans p1
  split at em
  · rename_i z e3
    cases em
    exact .inr ⟨s1, W1, x, se, st1, e3, fun cls d σ2 H2 W2 st2 k2 p2 xr => q cls d σ2 H2 W2 st2 (k'.trans k2) (p'.trans p2) xr⟩
  · simp only [Option.bind_eq_some_iff] at em
    obtain ⟨o, e2, em⟩ := em
    refine .inl ⟨s1, W1, o, st1, e2, ?_⟩
    cases o with
    | nx s2 => exact fun σ2 H2 W2 st2 k2 p2 => ⟨s2, W2, st2, k'.trans k2, p'.trans p2, em⟩
    | ct s2 => exact fun σ2 H2 W2 st2 k2 p2 => ⟨s2, W2, st2, k'.trans k2, p'.trans p2, em⟩
    | _ => cases em
end
section
variable {X : Cx} {pr : List Nat} {e : Expr} {sts : List Stmt} {pos p tpos : Pos} {elts : List Expr} {kk : Nat} {gs : TGs} {fs : List D → S → Option S} {m : MS} {mi : M D} {rb : R}
theorem rs_forE {p3 : Pos} (hi : DE X e mi) (hr : Gl X "enumerate") (hm : X.mg "enumerate" = none) (hg : PG X (.Tuple elts kk tpos) (gTup X.K 2 gs)) (hf : TGs' X.K X.mg pr gs fs) (hb : SEs X.nox pr sts m) (hx : RSs X pr sts rb) (hc : X.calm = true) (hp : PassesOwn (model X.prog X.w) X.A X.env X.xe)
    (hs : starEach [e] X.env = [(false, eval e X.env)] := by rfl) (he : starEach (e :: []) X.env = (false, eval e X.env) :: starEach [] X.env := by rfl) : RS X pr (.For (.Tuple elts kk tpos) (.Call (.Name "enumerate" p) [e] [] p3) sts [] pos) (forER mi fs m rb) := fun Wi tk => by
  have hb1 : SEs X pr sts m := hb.nox
  have both : PSs X sts fun D σ H => tM X.K X.mg pr m D σ H ∨ tX X.K X.mg pr rb Wi σ H := ⟨fun pins s σ H D I q => q.elim (hb1.run pins s σ H D I) ((hx Wi tk).run pins s σ H D I)⟩
  refine PS.imp (ps_for hp hc (pi_enumT hr hm (pa_cons hi pa_nil he) hs) hg both) fun D σ H ⟨sd, W, x, s', st, em, q⟩ => ?_
  simp only [forER, Option.bind_eq_some_iff] at em
  obtain ⟨⟨d, s1⟩, e1, ds, e2, em⟩ := em
  refine ⟨sd, W, d, s1, st, e1, fun v H1 W1 st1 k1 r1 => ?_⟩
  cases d with
  | tup es =>
    cases e2
    cases r1 with
    | @tup a vs _ sa ra =>
      have qq : ∀ cls d σ' H' W', St X.K X.mg s' σ' H' W' → Kp s1 σ H1 W1 s' σ' H' W' → Pr pr σ σ' → ExR X.K X.mg W' x cls d → Wi cls d σ' H' := fun cls d σ' H' W' st' k' p' xr => q cls d σ' H' W' st' (k1.trans k') p' xr
      refine ⟨a, vs, rfl, st_le st1.le sa, fun i m' σ' H' => RTurn X.K X.mg pr s1 σ H1 W1 (tupF 2 fs) m rb (enumD ds) x s' i σ' H' ∧ m' + i = vs.length, ⟨vs.length, ⟨s1, W1, st1, Kp.refl, Pr.refl, em⟩, rfl⟩, ?_⟩
      rintro i m' σ' H' ⟨t, hm'⟩
      have sq : SqT X.K H' a vs := by
        obtain ⟨sd', W', st', k', _, _⟩ := t
        exact st_le (k'.le.trans st'.le) sa
      have lenE : (enumD ds).length = vs.length := by unfold enumD; rw [List.length_mapIdx]; exact ra.len.symm
      by_cases hi : i < vs.length
      · refine .inr ⟨⟨vs, vs[i], sq, by simp [hi]⟩, fun σ2 H2 => RTurn X.K X.mg pr s1 σ H1 W1 (tupF 2 fs) m rb (enumD ds) x s' (i + 1) σ2 H2, fun σ2 H2 n => ⟨m' - 1, by omega, n, by omega⟩, ?_⟩
        rintro y H2 ⟨T, z, rfl, hT, rfl, hy⟩
        obtain ⟨d, hd, rd⟩ := ra.get' (hy vs sq)
        exact RTurn.oneE hf qq (enumD_get hd) t (fun W' le => rd.le le) hT
      · obtain ⟨sd', W', st', k', p', em'⟩ := t
        rw [List.drop_eq_nil_of_le (by omega)] at em'
        cases em'
  | _ => cases e2
end
end Fli
set_option Elab.async false
set_option linter.all false
set_option maxRecDepth 100000
set_option maxHeartbeats 4000000
namespace Fli
open PySem PySem.Spec PyProof.Rows L2
variable [HW]

/-! defs that raise -/
def spR (K : PySem.W.Frag) (mg : Str → Option Value) (N ps : List Str) (pr : List Nat) (r : R) : Sp := fun vs H _ E => vs.length = ps.length ∧ tX K mg pr r (fun cls d _ H' => E cls d H') (L2.start N vs) H
def DefR (P : Program) (w : World) (K : PySem.W.Frag) (mg : Str → Option Value) (base : Heap) (k : Nat) (x : Str) (N ps : List Str) (pr : List Nat) (r : R) : Prop :=
  ∃ f fd, FnOk P w K mg base (L2.CX P w) k f fd ps (spR K mg N ps pr r) ∧ mg x = some (.ref f) ∧ PySem.W.keepIn K (.ref f) = true ∧ Binds K fd ps []
section
variable {P : Program} {w : World} {K : PySem.W.Frag} {mg : Str → Option Value} {base : Heap}
theorem def_okR {x qual : Str} {st : Stmt} {f : Addr} {fd : FuncData} {N ps : List Str} {k : Nat} {pr : List Nat} {r : R} (F : Fun K x qual st f fd) (Sc : FnScope N ps (defScope st))
    (hb : ∀ (cdv : Value) (A : Around) (outer : List Env) (s : Shared) (H : Hp) (E : XK), Room k (A.deeper (PyProof.Rows.envOfC qual (defScope st) s.heap.objs.size f cdv)) → RSs (cxOf (L2.CX P w) P w K mg base N qual (defScope st) f cdv A outer s H E) pr (defBody st) r) :
    FnOk P w K mg base (L2.CX P w) (k + 1) f fd ps (spR K mg N ps pr r) :=
  F.okX Sc (fun _ _ _ _ h => h.1) fun cdv A outer s H vs Q E hr h => ⟨_, hb cdv A outer s H E hr (fun cls d _ H' => E cls d H') (takes_of rfl rfl rfl rfl), h.2⟩
theorem FunX.defR {x : Str} {st : Stmt} {k : Nat} {N ps : List Str} {pr : List Nat} {r : R} (F : FunX K mg x st) (ok : ∀ {f fd}, Fun K x x st f fd → FnOk P w K mg base (L2.CX P w) k f fd ps (spR K mg N ps pr r)) (b : BindsLike x x st ps) : DefR P w K mg base k x N ps pr r := by
  obtain ⟨f, fd, F, hm⟩ := F
  exact ⟨f, fd, ok F, hm, F.kp, F.binds b⟩
end
/-- the call lets it out -/
def rcall (n : Nat) (r : R) (ms : M (List D)) : R := fun s => (ms s).bind fun q => (r (startS n (q.1.map .d))).map fun z => (z.1, q.2)
section
variable {X : Cx} {k n j : Nat} {N ps : List Str} {r : R} {x : Str} {p pos : Pos} {e : Expr} {es : List Expr} {ms : M (List D)}
theorem rx_call (d : DefR X.prog X.w X.K X.mg X.base k x N ps [] r) (hr : Room k X.A) (hg : Gl X x) (hn : N.length = n) (hs : LA X (e :: es) ms) (hl : LenIs ms j) (hj : j = ps.length) (hdb : (x == ("__debug__" : Str)) = false := by decide) (he : starEach (e :: es) X.env = (false, eval e X.env) :: starEach es X.env := by rfl) (hpl : (backTo pos (starEach es X.env)).any (·.1) = false := by rfl) :
    RX X (.Call (.Name x p) (e :: es) [] pos) (rcall n r ms) := fun Wi tk => by
  obtain ⟨f, fd, F, hm, hk, hb⟩ := d
  refine PE.imp (pe_callS F hr hg hm hk hb (fun σ => passAt tk σ) hs hdb he hpl) fun σ H Q ⟨sd, W, x0, s', st, em, q⟩ => ?_
  simp only [rcall, Option.bind_eq_some_iff, Option.map_eq_some_iff] at em
  obtain ⟨⟨ds, s1⟩, e1, ⟨x1, s2⟩, e2, em⟩ := em
  cases em
  refine ⟨sd, W, ds, s1, st, e1, fun vs H1 W1 st1 k1 r1 => ⟨?_, _, _, x1, s2, st1.call hn r1, e2, fun cls d σ' H' W' st' k' p' xr => ?_⟩⟩
  · rw [r1.len, ← hj]
    exact hl _ _ _ e1
  · obtain ⟨g1, g2⟩ := st1.after k' st' fun a => noown_start
    exact q cls d H' W' g1 (k1.trans g2) xr
end
/-! try: .. except (A, B, C) as n: .. -/
section
variable {X : Cx} {x1 x2 x3 n : Str} {c1 c2 c3 : Value} {i kk : Nat} {body suite : List Stmt} {b₀ : Stmt} {p1 p2 p3 np pos pos' : Pos} {tb : WX → TS} {ts : Addr → Value → Option Addr → TS}
end
end Fli
set_option Elab.async false
set_option linter.all false
set_option maxRecDepth 100000
set_option maxHeartbeats 4000000
namespace Fli
open PySem PySem.Spec PyProof.Rows L2
variable [HW]

/-! defs that are called with the exception which a suite holds -/
/-- p's object is the exception x, without a dict -/
def GoodP (K : PySem.W.Frag) (mg : Str → Option Value) (x : Str) (p : Addr × Obj) : Prop := ∃ C, mg x = some (.ref C) ∧ ExcC K C ∧ Zc (.ref C) none p.2 ∧ ∃ us, p.2.data = .fields us
structure FnP (P : Program) (w : World) (K : PySem.W.Frag) (mg : Str → Option Value) (base : Heap) (k : Nat) (f : Addr) (fd : FuncData) (ps : List Str) (x : Str) (sp : Addr → Sp) : Prop where
  len : ∀ {a vs H Q E}, sp a vs H Q E → vs.length = ps.length
  run : ∀ {A : Around} {outer : List Env} {s : Shared} {H : Hp} {args : Args} {us : List Value} {vs : List V} {Q : VK} {E : XK} {p : Addr × Obj}, L2H.RoomH k A → GoodP K mg x p → L2H.PinOk outer H s p →
    Env0 P w K mg base A outer s H → BindsTo s fd args (ps.zip us) → Vals vs us → sp p.1 vs H Q E → codeAny (model P w) A (.call (.ref f) args) (CR CX0 outer P w H s Q E) s
section
variable {P : Program} {w : World} {K : PySem.W.Frag} {mg : Str → Option Value} {base : Heap}
end
section
variable {X : Cx} {k i : Nat} {f a : Addr} {fd : FuncData} {ps N : List Str} {x c : Str} {p pos p2 : Pos} {e : Expr} {sp : Addr → Sp} {ta : TE} {oe : Obj} {pn : List (Addr × Obj)}
end
section
variable {X : Cx} {a C : Addr} {c tn : Str} {p pos p2 : Pos} {e : Expr} {oe : Obj} {m : M D} {y : V} {yv : Value} {b : Bool}
end
end Fli
set_option Elab.async false
set_option linter.all false
set_option maxRecDepth 100000
set_option maxHeartbeats 4000000
namespace Fli
open PySem PySem.Spec PyProof.Rows L2
variable [HW]

/-! a lambda is made: what it does to the table is told exactly -/
/-- nothing new, or one entry more in the table at P, its code object new -/
def Grown (H H1 : Hp) (P c : Addr) (q : Str) : Prop := H1 = H ∨ ∃ ps more, H P = some (.tbl ps) ∧ H c = none ∧ H1 = upd (upd H P (.tbl (ps ++ more))) c (LamX.CodeO c q)
section
variable {X : Cx} {pins : List (Addr × Obj)} {σ : L2.St} {H : Hp} {s : Shared}
end
end Fli
set_option Elab.async false
set_option linter.all false
set_option maxRecDepth 100000
set_option maxHeartbeats 4000000
namespace Fli
open PySem PySem.Spec PyProof.Rows L2
variable [HW]

section
variable {K : PySem.W.Frag} {mg : Str → Option Value} {sd : S} {σ : L2.St} {H G W : Hp} {P c : Addr} {q : Str}
theorem Grown.keep (g : Grown H G P c q) {b : Addr} {o : HO} (h : H b = some o) (n : nt o = true) : G b = some o := by
  rcases g with rfl | ⟨ps, more, h1, h2, rfl⟩
  · exact h
  · rw [upd_ne (ne_of_none h h2), upd_ne fun z => by rw [z, h1] at h; cases h; cases n]
    exact h
theorem Grown.there (g : Grown H G P c q) {b : Addr} (h : H b ≠ none) : G b ≠ none := by
  rcases g with rfl | ⟨ps, more, h1, h2, rfl⟩
  · exact h
  · intro z
    by_cases e1 : b = c
    · rw [e1, upd_same] at z; cases z
    · rw [upd_ne e1] at z
      by_cases e2 : b = P
      · rw [e2, upd_same] at z; cases z
      · rw [upd_ne e2] at z; exact h z
end
/-! try: got = call() / except (A, B, C) as e: return sort(e) / return ['returned', got] -/
def TTans (K : PySem.W.Frag) (mg : Str → Option Value) (c1 c2 c3 : Value) (Ns : List Str) (ok : Exn → Bool) (body : Exn → Addr → MS) : (XK → Hp → VK → Prop) → Hp → VK → Prop := fun tl H Q =>
  tl (fun cls d H' => ∃ x C, ok x = true ∧ d = none ∧ cls = .ref C ∧ mg x.c = some (.ref C) ∧ PySem.W.exmAny K cls [c1, c2, c3] = some true ∧ ∀ a, H' a = none → tM K mg [] (body x a) (endsOf Q) (L2.start Ns [.ref a]) H') H
    fun v H' => ∀ a, H' a = none → Q (.ref a) (upd H' a (.lst [.str "returned", v]))
section
variable {X : Cx} {Ng Ns ps : List Str} {x a q got en sn x1 x2 x3 : Str} {sg : Scope} {g fs : Addr} {fds : FuncData} {cdg : Value} {i j k kk kz : Nat} {c1 c2 c3 : Value} {ok : Exn → Bool} {body : Exn → Addr → MS} {p1 p2 p3 p4 p5 p6 p7 p8 p9 q1 q2 q3 q4 q5 q6 q7 q8 q9 : Pos}
end
/-- the def x calls what it gets, and says what came of it -/
structure AnsX (P : Program) (w : World) (K : PySem.W.Frag) (mg : Str → Option Value) (base : Heap) (k : Nat) (x a : Str) (pg : Arguments) (bg : List Stmt) (sg : Scope) (Ng Ns ps : List Str) (c1 c2 c3 : Value) (ok : Exn → Bool) (body : Exn → Addr → MS) (sf : Exn → Option D) : Prop where
  fn : ∃ g dV kV doc pm cdv ct oc an od osl, mg x = some (.ref g) ∧ PySem.W.keepIn K (.ref g) = true ∧ K.lookup g = some ⟨oc, od, .func (PySem.W.fnOf x x pg bg sg dV kV doc pm an cdv ct), osl⟩ ∧ PySem.W.codeIn K cdv x = true ∧ L2.Binds K (PySem.W.fnOf x x pg bg sg dV kV doc pm an cdv ct) [a] [] ∧
    ∀ (X : Cx) (q : Str), X.prog = P → X.w = w → X.K = K → X.mg = mg → X.base = base → Room (k + 1) X.A → LamX.GivesTo X Ng x sg g cdv bg a q (TTans K mg c1 c2 c3 Ns ok body)
  Sg : FnScope Ng [a] sg
  a0 : Ng[0]? = some a
  va : Vis sg a
  da : (a == ("__debug__" : Str)) = false
  dc : (a == ("__classdict__" : Str)) = false
  hn : ps.length = 1
  ex : ∀ y C, ok y = true → mg y.c = some (.ref C) → PySem.W.exmAny K (.ref C) [c1, c2, c3] = some true
  nf : ∀ y, ok y = true → y.fs = []
  says : ∀ y d, sf y = some d → ok y = true ∧ ∀ b, ∃ s2, callR Ns.length (body y b) [.d (.ptr b)] = some (.rd d s2)
section
variable {X : Cx} {Ng Ns ps : List Str} {x a : Str} {pg params : Arguments} {bg : List Stmt} {sg scope : Scope} {c P : Addr} {k : Nat} {c1 c2 c3 : Value} {ok : Exn → Bool} {body : Exn → Addr → MS} {sf : Exn → Option D} {e : Expr} {m : M D} {r : R} {p lpos pos : Pos}
end
end Fli
set_option Elab.async false
set_option linter.all false
set_option maxRecDepth 100000
set_option maxHeartbeats 4000000
namespace Fli
open PySem PySem.Spec PyProof.Rows L2

/-! the law's end, a def of the law making lambdas -/
end Fli
set_option Elab.async false
set_option linter.all false
set_option maxRecDepth 100000
set_option maxHeartbeats 4000000
namespace Fli
open PySem PySem.Spec PyProof.Rows L2
variable [HW]

/-! l.count(b), l a list of truth values -/
section
variable {X : Cx} {o e : Expr} {ma mb : M D} {apos pos : Pos}
end
/-! isinstance of the exception, by the names of classes -/
section
variable {X : Cx} {a : Addr} {c tn : Str} {p pos p2 : Pos} {e : Expr} {oe : Obj} {m : M D} {t : Option Bool}
end
end Fli
set_option Elab.async false
set_option linter.all false
set_option maxRecDepth 100000
set_option maxHeartbeats 4000000
namespace Fli
open PySem PySem.Spec PyProof.Rows L2
variable [HW]

theorem _root_.L2H.RoomH.units {k : Nat} {A : Around} (r : L2H.RoomH k A) : A.units + 64 < cLine := by have := r.un; omega
/-! facts in one: a class that is raised without arguments, a def that makes lambdas -/
def FunC (K : PySem.W.Frag) (x : Str) (st : Stmt) (f : Addr) (fd : FuncData) (c : Addr) : Prop := ∃ (oc : Value) (od : Option Addr) (kV doc pm : Value) (an : Option Addr) (ct : Value) (osl : Array (Option Value)),
  fd = PySem.W.fnOf x x (defArgs st) (defBody st) (defScope st) .none kV doc pm an (.ref c) ct ∧ K.lookup f = some ⟨oc, od, .func fd, osl⟩ ∧ PySem.W.codeIn K (.ref c) x = true ∧ PySem.W.keepIn K (.ref f) = true
section
variable {P : Program} {w : World} {K : PySem.W.Frag} {mg : Str → Option Value} {base : Heap}
theorem FnP.mono {k j : Nat} {f : Addr} {fd : FuncData} {ps : List Str} {x : Str} {sp : Addr → Sp} (F : FnP P w K mg base j f fd ps x sp) (h : j ≤ k) : FnP P w K mg base k f fd ps x sp :=
  ⟨F.len, fun hr => F.run (hr.mono h)⟩
end
section
variable {X : Cx} {k n : Nat} {N ps : List Str} {body : MS} {x : Str} {p pos : Pos} {e : Expr} {mo : M O}
end
theorem FunC.kp {K : PySem.W.Frag} {x : Str} {st : Stmt} {f c : Addr} {fd : FuncData} (F : FunC K x st f fd c) : PySem.W.keepIn K (.ref f) = true := by
  obtain ⟨_, _, _, _, _, _, _, _, _, _, _, h⟩ := F
  exact h
theorem FunC.binds {K : PySem.W.Frag} {x : Str} {st : Stmt} {f c : Addr} {fd : FuncData} {ps : List Str} (F : FunC K x st f fd c) (b : BindsLike x x st ps) : Binds K fd ps [] := by
  obtain ⟨oc, od, kV, doc, pm, an, ct, osl, e, _, _, _⟩ := F
  subst e
  intro s us KX hl
  rw [List.append_nil] at hl ⊢
  exact .of_eq (b kV doc pm an (.ref c) ct us hl)
end Fli
set_option Elab.async false
set_option linter.all false
set_option maxRecDepth 100000
set_option maxHeartbeats 4000000
namespace Fli
open PySem PySem.Spec PyProof.Rows L2

/-! the facts, from what the top has left -/
section
variable {K : PySem.W.Frag} {mg : Str → Option Value} {h : Heap}
end
end Fli
set_option Elab.async false
set_option linter.all false
set_option maxRecDepth 100000
set_option maxHeartbeats 4000000
namespace Fli
open PySem PySem.Spec PyProof.Rows L2

/-! the law's own call, one table of code objects, no repr under way -/
end Fli
set_option Elab.async false
set_option linter.all false
set_option maxRecDepth 100000
set_option maxHeartbeats 4000000
namespace Fli
open PySem PySem.Spec PyProof.Rows L2

/-! the law's own call, several tables of code objects -/
end Fli
set_option Elab.async false
set_option linter.all false
set_option maxRecDepth 100000
set_option maxHeartbeats 4000000
/-! what raises within len(..), within a comparison, an attribute asked of what raises -/
namespace Fli
open PySem PySem.Spec PyProof.Rows L2
variable [HW]
section
variable {X : Cx} {a b e : Expr} {pos p : Pos} {r : R} {x : Str} {id : String}
end
end Fli
set_option Elab.async false
set_option linter.all false
set_option maxRecDepth 100000
set_option maxHeartbeats 4000000
namespace Fli
open PySem PySem.Spec PySem.Calls PyProof.Rows L2

/-! isinstance of an exception that has a dict -/
section
variable {prog : Program} {w : World} {A : Around} {E : Value → Shared → Prop} {s : Shared} {K : PySem.W.Frag} {a C : Addr} {oe od : Obj}
end
section
variable {X : Cx} {a C dx : Addr} {oe : Obj}
end
end Fli
set_option Elab.async false
set_option linter.all false
set_option maxRecDepth 100000
set_option maxHeartbeats 4000000
namespace Fli
open PySem PySem.Spec PyProof.Rows L2
variable [HW]

/-! continue -/
/-! a def that makes lambdas, called where no repr is under way -/
section
variable {P : Program} {w : World} {K : PySem.W.Frag} {mg : Str → Option Value} {base : Heap}
theorem FunC.defG {x : Str} {st : Stmt} {f c : Addr} {fd : FuncData} {k : Nat} {N ps : List Str} {pr : List Nat} {body : MS} (F : FunC K x st f fd c) (hm : mg x = some (.ref f)) (ok : FnG P w K mg base k f fd ps (spM K mg N ps pr body)) (b : BindsLike x x st ps) : DefG P w K mg base k x N ps pr body :=
  ⟨f, fd, ok, hm, F.kp, F.binds b⟩
/-! a def that raises, called by keywords alone -/
end
section
variable {X : Cx} {k n : Nat} {N ps ks : List Str} {idx : List Nat} {r : R} {x : Str} {p po : Pos} {kws : List Keyword} {ms : M (List D)}
end
end Fli
set_option Elab.async false
set_option linter.all false
set_option maxRecDepth 100000
set_option maxHeartbeats 4000000
/-! len(set(texts)), as many texts as there are -/
namespace Fli
open PySem PySem.Spec PyProof.Rows
section
variable {prog : Program} {w : World} {A : Around} {R : Result → Shared → Prop} {I : Addr} {fp wr : List Addr} {G : Array GenState → Array GenState → Prop} {n : Nat} {P : Nat → Value → Prop} {St : Nat → Shared → Prop}
end
section
variable {prog : Program} {w : World} {A : Around} {E : Value → Shared → Prop} {s : Shared}
end
end Fli
set_option Elab.async false
set_option linter.all false
set_option maxRecDepth 100000
set_option maxHeartbeats 4000000
namespace Fli
open PySem PySem.Spec PyProof.Rows L2
variable [HW]

/-! len(set(x)), x a list of texts -/
section
variable {X : Cx} {a : Expr} {p p2 q pos : Pos} {m : M D}
end
end Fli
set_option Elab.async false
set_option linter.all false
set_option maxRecDepth 100000
set_option maxHeartbeats 4000000
namespace Fli
open PySem PySem.Spec PyProof.Rows L2
variable [HW]

/-! repr of any one value: also of None, of truth values, of numbers, of texts, of an empty dict -/
def rReprX (K : PySem.W.Frag) : List V → Hp → VK → Prop := fun xs H Q =>
  (xs = [.non] ∧ Q (.str "None") H) ∨ (∃ b, xs = [.bl b] ∧ Q (.str (if b = true then "True" else "False")) H) ∨ (∃ i, xs = [.int i] ∧ i.natAbs.log2 < 1920 ∧ Q (.str (toString i)) H) ∨
  (∃ z, xs = [.str z] ∧ (reprText z).length ≤ sizeLine ∧ Q (.str (reprText z)) H) ∨ (∃ a, xs = [.ref a] ∧ Rd H a (.dK []) ∧ Q (.str "{}") H) ∨ rRepr K xs H Q
section
variable {X : Cx}
theorem call_reprX (gd : X.A.guards = some []) (hu : X.A.units + 66 < cLine) : CallR X (.builtin "repr") (rReprX X.K) := by
  intro pins s σ H xs us Q I r h
  rcases h with ⟨rfl, q⟩ | ⟨b, rfl, q⟩ | ⟨i, rfl, hz, q⟩ | ⟨z, rfl, hz, q⟩ | ⟨a, rfl, ha, q⟩ | h
  · obtain ⟨u, rfl, ru⟩ := vals1 r
    obtain rfl : u = Value.none := ru
    exact PySem.P.repr_of_none ⟨.str "None", H, I.tok _, ⟨_, rfl⟩, q⟩
  · obtain ⟨u, rfl, ru⟩ := vals1 r
    obtain rfl : u = Value.bool b := ru
    exact PySem.P.repr_of_bool ⟨.str (if b = true then "True" else "False"), H, I.tok _, ⟨_, by cases b <;> rfl⟩, q⟩
  · obtain ⟨u, rfl, t, rfl⟩ := vals1 r
    exact PySem.P.repr_of_int hz ⟨.str _, H, I.tok _, ⟨_, rfl⟩, q⟩
  · obtain ⟨u, rfl, t, rfl⟩ := vals1 r
    exact PySem.P.repr_of_str ⟨.str _, H, I.tok _, ⟨_, rfl⟩, q⟩ hz
  · obtain ⟨u, rfl, ru⟩ := vals1 r
    obtain rfl : u = Value.ref a := ru
    obtain ⟨_, hs, vs, kv, o, es, ep, ho, hc, hd, _, pr, _⟩ := dk_rd I.hok ha
    have e0 : es = #[] := by
      cases kv
      have := pr.length
      exact Array.toList_inj.mp (by simpa using this)
    subst e0
    have rd : Reads s.heap (.ref a) (.dict []) [a] := .dict (as := []) (bs := []) ho hc.1 hd .nil .nil
    refine repr_of_reads' rd rfl (fun _ m => absurd (List.mem_singleton.mp m) (fun z => by rw [← z] at hs; simp at hs)) gd (by show X.A.units + (_ + 1) < cLine; simp only [PyData.depth]; simp only [PyData.depthKv]; omega) (fun _ _ e => e) (fun h' u tk hk => ?_) (by decide)
    exact ⟨.str "{}", H, I.kept hk, ⟨_, rfl⟩, q⟩
  · exact call_repr gd hu pins s σ H xs us Q I r h
end
def reprX : List D → Option D
  | [.non] => some (.str "None")
  | [.bl b] => some (.str (if b = true then "True" else "False"))
  | [.int i] => if i.natAbs.log2 < 1920 then some (.str (toString i)) else none
  | [.str z] => if (reprText z).length ≤ sizeLine then some (.str (reprText z)) else none
  | [.dic []] => some (.str "{}")
  | ds => reprD ds
theorem cd_reprX {K : PySem.W.Frag} {mg : Str → Option Value} : C1D K mg (rReprX K) reprX := C1D.of fun xs z vs H W le hx hf Q q => by
  unfold reprX at hf
  split at hf
  · cases hf
    cases hx with
    | cons h1 h2 => cases h2; cases h1; exact .inl ⟨rfl, q _ (.str _)⟩
  · cases hf
    cases hx with
    | cons h1 h2 => cases h2; cases h1; exact .inr (.inl ⟨_, rfl, q _ (.str _)⟩)
  · split at hf
    · rename_i hz
      cases hf
      cases hx with
      | cons h1 h2 => cases h2; cases h1; exact .inr (.inr (.inl ⟨_, rfl, hz, q _ (.str _)⟩))
    · cases hf
  · split at hf
    · rename_i hz
      cases hf
      cases hx with
      | cons h1 h2 => cases h2; cases h1; exact .inr (.inr (.inr (.inl ⟨_, rfl, hz, q _ (.str _)⟩)))
    · cases hf
  · cases hf
    cases hx with
    | cons h1 h2 =>
      cases h2
      cases h1 with
      | dic hW hr => cases hr; exact .inr (.inr (.inr (.inr (.inl ⟨_, rfl, hW.imp (le _ _) (fun ⟨o, z⟩ => ⟨o, le _ _ z⟩), q _ (.str _)⟩))))
  · refine .inr (.inr (.inr (.inr (.inr ?_))))
    unfold reprD at hf
    split at hf
    · obtain ⟨p, hp, hf⟩ := Option.bind_eq_some_iff.mp hf
      split at hf
      · rename_i h
        cases hf
        cases hx with
        | cons h1 h2 => cases h2; exact ⟨_, p, rfl, toDp le h1 hp, h.1, h.2.1, h.2.2.1, h.2.2.2.1, h.2.2.2.2, q _ (.str _)⟩
      · cases hf
    · cases hf
end Fli
set_option Elab.async false
set_option linter.all false
set_option maxRecDepth 100000
set_option maxHeartbeats 4000000
namespace Fli
open PySem PySem.Spec PyProof.Rows L2
variable [HW]

/-! defs that are called with an exception that may have a field -/
/-- p's object is the exception x, d its dict -/
def GoodE (K : PySem.W.Frag) (mg : Str → Option Value) (x : Str) (d : Option Addr) (p : Addr × Obj) : Prop := ∃ C, mg x = some (.ref C) ∧ ExcC K C ∧ Zc (.ref C) d p.2 ∧ ∃ us, p.2.data = .fields us
structure FnE (P : Program) (w : World) (K : PySem.W.Frag) (mg : Str → Option Value) (base : Heap) (k : Nat) (f : Addr) (fd : FuncData) (ps : List Str) (x : Str) (d : Option Addr) (sp : Addr → Sp) : Prop where
  len : ∀ {a vs H Q E}, sp a vs H Q E → vs.length = ps.length
  run : ∀ {A : Around} {outer : List Env} {s : Shared} {H : Hp} {args : Args} {us : List Value} {vs : List V} {Q : VK} {E : XK} {p : Addr × Obj}, A.guards = some [] → L2H.RoomH k A → GoodE K mg x d p → L2H.PinOk outer H s p →
    Env0 P w K mg base A outer s H → BindsTo s fd args (ps.zip us) → Vals vs us → sp p.1 vs H Q E → codeAny (model P w) A (.call (.ref f) args) (CR CX0 outer P w H s Q E) s
section
variable {P : Program} {w : World} {K : PySem.W.Frag} {mg : Str → Option Value} {base : Heap}
theorem FnE.mono {k j : Nat} {f : Addr} {fd : FuncData} {ps : List Str} {x : Str} {d : Option Addr} {sp : Addr → Sp} (F : FnE P w K mg base j f fd ps x d sp) (h : j ≤ k) : FnE P w K mg base k f fd ps x d sp :=
  ⟨F.len, fun gd hr => F.run gd (hr.mono h)⟩
end
section
variable {X : Cx} {k i : Nat} {f a : Addr} {fd : FuncData} {ps N : List Str} {x c tn fl : Str} {p pos p2 apos : Pos} {e : Expr} {sp : Addr → Sp} {ta : TE} {oe : Obj} {d : Option Addr} {m : M D} {t : Option Bool} {hv : Bool}
end
end Fli
set_option Elab.async false
set_option linter.all false
set_option maxRecDepth 100000
set_option maxHeartbeats 4000000
namespace Fli
open PySem PySem.Spec PyProof.Rows L2
variable [HW]

/-! answers, the exceptions having fields or none -/
def TTansE (K : PySem.W.Frag) (mg : Str → Option Value) (c1 c2 c3 : Value) (Ns : List Str) (ok : Exn → Bool) (body : Exn → Option Addr → Addr → MS) : (XK → Hp → VK → Prop) → Hp → VK → Prop := fun tl H Q =>
  tl (fun cls d H' => ∃ x C, ok x = true ∧ cls = .ref C ∧ mg x.c = some (.ref C) ∧ PySem.W.exmAny K cls [c1, c2, c3] = some true ∧ ∀ a, H' a = none → tM K mg [] (body x d a) (endsOf Q) (L2.start Ns [.ref a]) H') H
    fun v H' => ∀ a, H' a = none → Q (.ref a) (upd H' a (.lst [.str "returned", v]))
section
variable {X : Cx} {Ng Ns ps : List Str} {x a q got en sn x1 x2 x3 : Str} {sg : Scope} {g fs : Addr} {fds : FuncData} {cdg : Value} {i j k kk kz : Nat} {c1 c2 c3 : Value} {ok : Exn → Bool} {body : Exn → Option Addr → Addr → MS} {p1 p2 p3 p4 p5 p6 p7 p8 p9 q1 q2 q3 q4 q5 q6 q7 q8 q9 : Pos}
end
structure AnsE (P : Program) (w : World) (K : PySem.W.Frag) (mg : Str → Option Value) (base : Heap) (k : Nat) (x a : Str) (pg : Arguments) (bg : List Stmt) (sg : Scope) (Ng Ns ps : List Str) (c1 c2 c3 : Value) (ok : Exn → Bool) (body : Exn → Option Addr → Addr → MS) (sf : Exn → Option D) : Prop where
  fn : ∃ g dV kV doc pm cdv ct oc an od osl, mg x = some (.ref g) ∧ PySem.W.keepIn K (.ref g) = true ∧ K.lookup g = some ⟨oc, od, .func (PySem.W.fnOf x x pg bg sg dV kV doc pm an cdv ct), osl⟩ ∧ PySem.W.codeIn K cdv x = true ∧ L2.Binds K (PySem.W.fnOf x x pg bg sg dV kV doc pm an cdv ct) [a] [] ∧
    ∀ (X : Cx) (q : Str), X.prog = P → X.w = w → X.K = K → X.mg = mg → X.base = base → X.A.guards = some [] → Room (k + 1) X.A → LamX.GivesTo X Ng x sg g cdv bg a q (TTansE K mg c1 c2 c3 Ns ok body)
  Sg : FnScope Ng [a] sg
  a0 : Ng[0]? = some a
  va : Vis sg a
  da : (a == ("__debug__" : Str)) = false
  dc : (a == ("__classdict__" : Str)) = false
  hn : ps.length = 1
  ex : ∀ y C, ok y = true → mg y.c = some (.ref C) → PySem.W.exmAny K (.ref C) [c1, c2, c3] = some true
  says : ∀ y d, sf y = some d → ok y = true ∧ (y.fs = [] → ∀ b, ∃ s2, callR Ns.length (body y none b) [.d (.ptr b)] = some (.rd d s2)) ∧ (y.fs ≠ [] → ∀ b dx, ∃ s2, callR Ns.length (body y (some dx) b) [.d (.exc b dx y.fs)] = some (.rd d s2))
section
variable {X : Cx} {Ng Ns ps : List Str} {x a : Str} {pg params : Arguments} {bg : List Stmt} {sg scope : Scope} {c P : Addr} {k : Nat} {c1 c2 c3 : Value} {ok : Exn → Bool} {body : Exn → Option Addr → Addr → MS} {sf : Exn → Option D} {e : Expr} {m : M D} {r : R} {p lpos pos : Pos}
end
/-! a class that is raised with one argument, which it keeps as a field -/
theorem exB_ValueError : ExB "ValueError" "ValueError.__new__" "ValueError.__init__" [.type "ValueError", .type "Exception", .type "BaseException", .type "object"] := ⟨PySem.F.excBase_ValueError, PySem.W.kxs_ValueError, PySem.F.store_ValueError⟩
def ExFX (P : Program) (K : PySem.W.Frag) (mg : Str → Option Value) (c f : Str) : Prop := ∃ C B newId initId bmB, ExT P K C f B newId initId bmB ∧ mg c = some (.ref C)
theorem rs_raiseF {X : Cx} {pr : List Nat} {c f : Str} {e : Expr} {me : M D} {p p1 pos : Pos} (z : ExFX X.prog X.K X.mg c f) (N : FdN f) (hr : Room 1 X.A) (hg : Gl X c) (he : DE X e me) (hc : X.calm = true)
    (hdb : (c == ("__debug__" : Str)) = false := by decide) (hse : starEach [e] X.env = (false, eval e X.env) :: starEach [] X.env := by rfl) (hpl : (backTo p1 (starEach [] X.env)).any (·.1) = false := by rfl) :
    RS X pr (.Raise (some (.Call (.Name c p) [e] [] p1)) none pos) (raiseR c f me) := by
  obtain ⟨C, B, n, i, b, h1, h2⟩ := z
  exact rs_raise (k := 0) N h1 hr hg h2 he hc hdb hse hpl
theorem exT_mk {P : Program} {K : PySem.W.Frag} {mg : Str → Option Value} {h : Heap} {c f : Str} {C fI cda cc : Addr} {B newId initId : String} {bmB : List Value} {q tx : Str} {q0 q1 p0 p1 p2 p3 p4 p5 p6 p7 p8 p9 : Pos} {j : Nat} {oc kV doc pm ct ccl cl : Value} {od an cdd cld : Option Addr} {osl ccs csl : Array (Option Value)} {vs : Array Value} {file : Str} {tf : Tok}
    (eb : ExB B newId initId bmB) (X : K.In h) (G : h.Ns mainGlobals mg) (a : PySem.W.nsIn K mainGlobals c = some (some (.ref C))) (k : PySem.W.keepIn K (.ref C) = true) (i : PySem.W.excInitIn K C bmB newId = true) (e : PySem.W.subIn K (.ref C) (.type "BaseException") = some true) (t : PySem.W.typeIn K (.ref C) = some (.type "type"))
    (sa : PySem.W.findIn K (.ref C) "__setattr__" = some (some (.builtin "object.__setattr__"))) (ov : PySem.W.excOver K C bmB = true) (tk : PySem.W.takerIn K C f = some none) (hd : PySem.W.hasDictIn K C = true) (ga : PySem.W.findIn K (.ref C) "__getattribute__" = some (some (.builtin "BaseException.__getattribute__"))) (gg : PySem.W.findIn K (.ref C) "__getattr__" = some none)
    (no : PySem.W.findIn K (.ref C) f = some none) (sB : PySem.W.subIn K (.ref C) (.type B) = some true) (sC : PySem.W.mroIn K C (.ref C) = some true) (sup : PySem.W.ks_superIn K C C "__init__" = some (some (.builtin initId))) (op : PySem.W.nsIn K cStatics "thirdparty.any" = some none) (sN : PySem.W.nsIn K mainGlobals "super" = some none)
    (top : (P.main.scope.names.lookup ("super" : Str)).isSome = false) (iC : PySem.W.findIn K (.ref C) "__init__" = some (some (.ref fI))) (tI : PySem.W.typeIn K (.ref fI) = some (.type "function"))
    (lk : K.lookup fI = some ⟨oc, od, .func (PySem.W.fnX "__init__" q (arI f q0 q1) (bdI f tx j p0 p1 p2 p3 p4 p5 p6 p7 p8 p9) (scI f) [("__class__", cc)] .none kV doc pm an (.ref cda) ct), osl⟩) (hcd : PySem.W.codeIn K (.ref cda) q = true)
    (hk : K.lookup cda = some ⟨ccl, cdd, .fields vs, ccs⟩) (hv : vs[2]? = some (.str file tf)) (hf : ((P.main.file : Str) == file) = true) (hl : (p2.endLine == p4.line) = true) (hcc : K.lookup cc = some ⟨cl, cld, .cell (some (.ref C)), csl⟩) : ExFX P K mg c f :=
  ⟨C, B, newId, initId, bmB, ⟨eb, k, i, e, t, sa, ov, tk, hd, ga, gg, no, sB, sC, sup, op, sN, top, fI, cda, cc, q, tx, q0, q1, p0, p1, p2, p3, p4, p5, p6, p7, p8, p9, j, oc, kV, doc, pm, ct, ccl, cl, od, an, cdd, cld, osl, ccs, csl, vs, file, tf, iC, tI, lk, hcd, hk, hv, hf, hl, hcc⟩, PySem.W.mg_of X G a⟩
end Fli
set_option Elab.async false
set_option linter.all false
set_option maxRecDepth 100000
set_option maxHeartbeats 4000000
namespace Fli
open PySem PySem.Spec PyProof.Rows L2
theorem _root_.L2H.RoomH.un66 {k : Nat} {A : Around} (r : L2H.RoomH k A) : A.units + 66 < cLine := by have := r.un; omega
theorem _root_.L2.Room.one {k : Nat} {A : Around} (r : L2.Room (k + 1) A) : L2.Room 1 A := r.mono (by omega)
end Fli
set_option Elab.async false
set_option linter.all false
set_option maxRecDepth 100000
set_option maxHeartbeats 4000000
namespace Fli
open PySem PySem.Spec PyProof.Rows L2
variable [HW]

/-! list(text), tuple(text) -/
section
variable {X : Cx}
end
section
variable {K : PySem.W.Frag} {mg : Str → Option Value}
end
end Fli
set_option Elab.async false
set_option linter.all false
set_option maxRecDepth 100000
set_option maxHeartbeats 4000000
/-! several defs that make lambdas; what is never come by; isinstance where a dict may stand -/
namespace Fli
open PySem PySem.Spec PyProof.Rows L2
section
variable {K : PySem.W.Frag} {mg : Str → Option Value} {h : Heap}
end
section
variable [HW] {X : Cx} {e : Expr} {m : M D} {x : Str} {p p2 pos : Pos} {fields : List Str}
end
end Fli
set_option Elab.async false
set_option linter.all false
set_option maxRecDepth 100000
set_option maxHeartbeats 4000000
namespace Fli
open PySem PySem.Spec PyProof.Rows L2
/-! x.replace(x[0], "..") of a name x -/
section
variable {X : Cx}
variable [HW]
end
/-! a def that raises, called by place and by keyword -/
section
variable [HW]
variable {X : Cx} {k n np : Nat} {N ps ks : List Str} {r : R} {x : Str} {p po : Pos} {e : Expr} {es : List Expr} {kws : List Keyword} {ms mk : M (List D)}
end
/-! a tuple repeated no time or once -/
section
variable [HW]
section
variable {X : Cx}
end
/-! str of a text, of None, of a number -/
end
end Fli
set_option Elab.async false
set_option linter.all false
set_option maxRecDepth 100000
set_option maxHeartbeats 4000000
namespace Fli
open PySem PySem.Spec PyProof.Rows L2
variable [HW]
/-! displays of two and three keys, all different -/
section
variable {X : Cx} {pos : Pos}
end
end Fli
set_option Elab.async false
set_option linter.all false
set_option maxRecDepth 100000
set_option maxHeartbeats 4000000
namespace Fli
open PySem PySem.Spec PyProof.Rows L2
/-! sorted of pairs of texts: by the first, then by the second; the sorted list is the only one -/
/-- a tuple of two texts -/
def IsPairS (h : Heap) (v : Value) (x y : Str) : Prop := ∃ a o t u n, v = .ref a ∧ h.get? a = some o ∧ o.cls = .type "tuple" ∧ o.data = .seq #[.str x t, .str y u] n
theorem IsPairS.on {h h' : Heap} {v : Value} {x y : Str} (p : IsPairS h v x y) (k : ∀ b o, h.get? b = some o → o.cls = .type "tuple" → h'.get? b = some o) : IsPairS h' v x y :=
  let ⟨a, o, t, u, n, e, ho, hc, hd⟩ := p
  ⟨a, o, t, u, n, e, k _ _ ho hc, hc, hd⟩
variable [HW]
section
variable {prog : Program} {w : World} {A : Around} {E : Value → Shared → Prop} {s : Shared}
end
section
variable {X : Cx}
end
section
variable {K : PySem.W.Frag} {mg : Str → Option Value} {W H : Hp}
end
end Fli
set_option Elab.async false
set_option linter.all false
set_option maxRecDepth 100000
set_option maxHeartbeats 4000000
namespace Fli
open PySem PySem.Spec PyProof.Rows L2
/-! a sum of lists as an object of its own -/
variable [HW]
/-! x, y, z = data, data, an object of its own -/
section
variable {X : Cx} {pr : List Nat}
end
/-! e in x, x a list of its own that stays so, its items of any depth -/
section
variable {X : Cx} {a : Expr} {ma : M D} {x : Str} {p2 pos : Pos}
end
end Fli
set_option Elab.async false
set_option linter.all false
set_option maxRecDepth 100000
set_option maxHeartbeats 4000000
namespace Fli
open PySem PySem.Spec PyProof.Rows L2
/-! sorted of texts, however many; of texts or of pairs -/
variable [HW]
section
variable {prog : Program} {w : World} {A : Around} {E : Value → Shared → Prop} {s : Shared}
end
section
variable {X : Cx}
end
section
variable {K : PySem.W.Frag} {mg : Str → Option Value}
end
end Fli
set_option Elab.async false
set_option linter.all false
set_option maxRecDepth 100000
set_option maxHeartbeats 4000000
/-! dict(zip(tuple, tuple)) -/
namespace Fli
open PySem PySem.Spec PyProof.Rows L2 RZ
section
variable {prog : Program} {w : World} {A : Around} {E : Value → Shared → Prop} {s : Shared}
end
section
variable [HW]
variable {K : PySem.W.Frag} {mg : Str → Option Value}
end
end Fli
set_option Elab.async false
set_option linter.all false
set_option maxRecDepth 100000
set_option maxHeartbeats 4000000
/-! text[::-1] -/
namespace Fli
open PySem PySem.Spec PyProof.Rows L2
variable [HW]
section
variable {X : Cx} {e st : Expr} {te : TE} {ts : TO} {p2 pos : Pos}
end
end Fli
set_option Elab.async false
set_option linter.all false
set_option maxRecDepth 100000
set_option maxHeartbeats 4000000
/-! tuple(x.values()), x a dict of its own -/
namespace Fli
open PySem PySem.Spec PyProof.Rows L2
open PySem.W (KdlSrc kdl_extend kdl_values kdl_vals_eq)
section
variable {prog : Program} {w : World} {A : Around} {E : Value → Shared → Prop} {s : Shared} {T : String} {r d : Addr} {n : Nat} {P : Nat → Value → Prop} {OK : Heap → Prop}
end
section
variable {X : Cx} {o : Expr} {td : TE} {p pos apos mpos : Pos}
variable [HW]
end
section
variable [HW]
end
end Fli
set_option Elab.async false
set_option linter.all false
set_option maxRecDepth 100000
set_option maxHeartbeats 4000000
/-! sorted(a dict), its keys texts, however many -/
namespace Fli
open PySem PySem.Spec PyProof.Rows L2
section
variable {X : Cx}
variable [HW]
end
section
variable [HW] {K : PySem.W.Frag} {mg : Str → Option Value}
end
end Fli
set_option Elab.async false
set_option linter.all false
set_option maxRecDepth 100000
set_option maxHeartbeats 4000000
namespace Fli
open PySem PySem.Spec PyProof.Rows L2
variable [HW]
/-! x, y, z = data, an object of its own, data -/
section
variable {X : Cx} {pr : List Nat}
end
end Fli
set_option Elab.async false
set_option linter.all false
set_option maxRecDepth 100000
set_option maxHeartbeats 4000000
/-! zip of three texts of plain signs, as long as one another -/
namespace Fli
open PySem PySem.Spec PyProof.Rows L2 RZ
section
variable {prog : Program} {w : World} {A : Around} {E : Value → Shared → Prop} {s : Shared}
end
section
variable [HW] {b : Bool} {K : PySem.W.Frag} {mg : Str → Option Value} {W : Hp}
end
end Fli
set_option Elab.async false
set_option linter.all false
set_option maxRecDepth 100000
set_option maxHeartbeats 4000000
namespace Fli
open PySem PySem.Spec PyProof.Rows L2
variable [HW]

/-! a dict of the module whose values are defs: asked, read, and the def called that was read -/
def TabF (K : PySem.W.Frag) (w : World) (mg : Str → Option Value) (x : Str) (fs : List (Str × Str)) : Prop :=
  ∃ d es n, mg x = some (.ref d) ∧ KDict K w d es n ∧ ∀ z : Str, ∃ r, PySem.W.nsIn K d z = some r ∧ match valP fs z with
    | some g => ∃ f, r = some (.ref f) ∧ mg g = some (.ref f)
    | none => r = none
def EntF (mg : Str → Option Value) : List DictEntry → List (Str × Str) → Prop
  | [], [] => True
  | e :: r, (k, g) :: fs => (∃ t, e.key = .str k t) ∧ (∃ f, e.val = .ref f ∧ mg g = some (.ref f)) ∧ EntF mg r fs
  | _, _ => False
theorem entF_find {mg : Str → Option Value} (z : Str) : ∀ {es : List DictEntry} {fs : List (Str × Str)}, EntF mg es fs → (match es.find? (·.key.isStr z) with
      | some e => ∃ g f, valP fs z = some g ∧ e.val = .ref f ∧ mg g = some (.ref f)
      | none => valP fs z = none) ∧ es.any (·.refKey) = false
  | [], [], _ => ⟨rfl, rfl⟩
  | e :: r, (k, g) :: fs, h => by
    obtain ⟨⟨t, hk⟩, ⟨f, hv, hg⟩, hr⟩ := h
    obtain ⟨h1, h2⟩ := entF_find z hr
    have hs : e.key.isStr z = decide (k = z) := by
      rw [hk, PySem.W.isStr_of]
      show (k == z) = decide (k = z)
      rfl
    constructor
    · by_cases q : k = z
      · rw [List.find?_cons_of_pos (by rw [hs, decide_eq_true q])]
        refine ⟨g, f, ?_, hv, hg⟩
        unfold valP
        rw [List.find?_cons_of_pos (by exact decide_eq_true q)]
        rfl
      · rw [List.find?_cons_of_neg (by rw [hs, decide_eq_false q]; decide)]
        have e2 : valP ((k, g) :: fs) z = valP fs z := by
          unfold valP
          rw [List.find?_cons_of_neg (by rw [decide_eq_false q]; decide)]
        rw [e2]
        exact h1
    · rw [List.any_cons, h2]
      have : e.refKey = false := by
        unfold DictEntry.refKey
        rw [hk]
      rw [this]; rfl
  | [], _ :: _, h => h.elim
  | _ :: _, [], h => h.elim
theorem tabF_mk {K : PySem.W.Frag} {w : World} {mg : Str → Option Value} {x : Str} {fs : List (Str × Str)} {d : Addr} {es : Array DictEntry} {n : Nat} (h : mg x = some (.ref d)) (l : K.lookup d = some ⟨.type "dict", none, .dict es n, #[]⟩) (lit : PySem.W.KeysLit w.params es.toList) (low : (d == sysModules) = false) (he : EntF mg es.toList fs) : TabF K w mg x fs := by
  refine ⟨d, es, n, h, ⟨l, lit, low⟩, fun z => ?_⟩
  obtain ⟨h1, h2⟩ := entF_find z he
  unfold PySem.W.nsIn
  rw [l]
  dsimp only
  cases q : es.toList.find? (·.key.isStr z) with
  | some e =>
    rw [q] at h1
    obtain ⟨g, f, e1, e2, e3⟩ := h1
    refine ⟨some e.val, rfl, ?_⟩
    rw [e1]
    exact ⟨f, by rw [e2], e3⟩
  | none =>
    rw [q] at h1
    refine ⟨none, by dsimp only; rw [h2]; rfl, ?_⟩
    have h1 : valP fs z = none := h1
    rw [h1]
def notF (x : Str) (fs : List (Str × Str)) : D → D → Option D
  | .str z, .cls c => if c = x then some (.bl !(valP fs z).isSome) else none
  | _, _ => none
def itF (x : Str) (fs : List (Str × Str)) : D → D → Option D
  | .cls c, .str z => if c = x then (valP fs z).map D.cls else none
  | _, _ => none
section
variable {K : PySem.W.Frag} {w : World} {mg : Str → Option Value} {x : Str} {fs : List (Str × Str)}
theorem b_notF {X : Cx} {a : Expr} {p2 pos : Pos} {ma : M D} (tf : TabF X.K X.w X.mg x fs) (hg : Gl X x) (ha : DE X a ma) (hd : (x == ("__debug__" : Str)) = false := by decide) (hm : behindInMarks .NotIn (.Name x p2) = false := by rfl) :
    BT X (.Compare a [.NotIn] [.Name x p2] pos) (bindM (mBin (notF x fs) ma (retM (.cls x))) fun d => optM (blD d)) := by
  obtain ⟨d, es, n, h, kd, hz⟩ := tf
  refine b_cmp (op_notIn_kd kd) (R2D.of fun y z k vy vz H W le hy hz2 hf Q q => ?_) ha (e_cls hg h hd) hm
  unfold notF at hf
  split at hf
  · rename_i z c
    split at hf
    · rename_i hc
      cases hf
      subst hc
      cases hy
      cases hz2 with
      | cls m =>
        rw [h] at m
        cases m
        obtain ⟨r, e1, e2⟩ := hz z
        refine ⟨z, r, rfl, rfl, e1, ?_⟩
        have : r.isSome = (valP fs z).isSome := by
          cases q : valP fs z with
          | some g => rw [q] at e2; obtain ⟨f, rfl, _⟩ := e2; rfl
          | none => rw [q] at e2; have e2 : r = none := e2; rw [e2]; rfl
        rw [this]
        exact q _ (.bl _)
    · cases hf
  · cases hf
theorem e_itF {X : Cx} {b : Expr} {p2 pos : Pos} {mb : M D} (tf : TabF X.K X.w X.mg x fs) (hg : Gl X x) (hb : DE X b mb) (hd : (x == ("__debug__" : Str)) = false := by decide) (hs : PlainIx b := by exact fun _ _ => rfl) :
    DE X (.Subscript (.Name x p2) b pos) (mBin (itF x fs) (retM (.cls x)) mb) := by
  obtain ⟨d, es, n, h, kd, hz⟩ := tf
  refine PE.imp (pe_ix ix_kdict (e_cls hg h hd) hb hs) fun _ _ _ u0 => t_bin (R2D.of fun y z k vy vz H W le hy hz2 hf Q qf => ?_) u0
  unfold itF at hf
  split at hf
  · rename_i c z
    split at hf
    · rename_i hc
      simp only [Option.map_eq_some_iff] at hf
      obtain ⟨g, hv, rfl⟩ := hf
      subst hc
      cases hz2
      cases hy with
      | cls m =>
        rw [h] at m
        cases m
        obtain ⟨r, e1, e2⟩ := hz z
        rw [hv] at e2
        obtain ⟨f, rfl, hm⟩ := e2
        exact ⟨d, z, .ref f, rfl, rfl, ⟨es, n, .ref f, kd.at_, kd.lit, e1, rfl⟩, qf _ (.cls hm)⟩
    · cases hf
  · cases hf
end
/-- x(e, ..), x a name of one's own that holds a def -/
theorem pe_callL {X : Cx} {k i : Nat} {f : Addr} {fd : FuncData} {ps : List Str} {x : Str} {p pos : Pos} {e : Expr} {es : List Expr} {sp : Sp} {dvs : List V} {ds : List Value} {E : XK} {CX : CXT} {t : TA} (F : FnOk X.prog X.w X.K X.mg X.base CX k f fd ps sp) (hr : Room k X.A) (hN : X.N[i]? = some x) (hv : Vis X.env.scope x) (hk : PySem.W.keepIn X.K (.ref f) = true) (hb : Binds X.K fd ps ds) (hd : Vals dvs ds) (hx : Passes CX X E) (ha : PA X (e :: es) t)
    (hdb : (x == ("__debug__" : Str)) = false := by decide) (hcd : (x == ("__classdict__" : Str)) = false := by decide) (he : starEach (e :: es) X.env = (false, eval e X.env) :: starEach es X.env := by rfl) (hpl : (backTo pos (starEach es X.env)).any (·.1) = false := by rfl) :
    PE X (.Call (.Name x p) (e :: es) [] pos) (fun σ H Q => σ[i]? = some (some (.ref f)) ∧ tCall sp dvs E t σ H Q) := by
  constructor
  rintro pins s σ H Q I ⟨hs, ht⟩
  have nm := (pe_var (pos := p) hN hv hdb hcd).run pins s σ H (fun v H1 => v = .ref f ∧ H1 = H) I ⟨.ref f, hs, rfl, rfl⟩
  refine wpAny_Call_Name_kw (thn nm fun u s1 z => ?_)
  obtain ⟨v, H1, I1, r1, rfl, rfl⟩ := z
  cases r1
  refine PySem.W.callWith_K (h₀ := X.base) I.ok.mod.kin hk (thn (ha.run pos pins s1 σ _ _ I1 ht) fun us s2 ⟨vs, H2, I2, r, q⟩ => ⟨I2.kIn, ?_⟩) he hpl
  exact run_fn F hr hb hd hx I2 r q
def dispM (i : Nat) (tb : Str → Option (Nat × MS)) (ms : M (List D)) : M D := bindM (mVar i) fun d => match d with
  | .cls g => (match tb g with
    | some q => callD q.1 q.2 ms []
    | none => fun _ => none)
  | _ => fun _ => none
theorem e_disp {X : Cx} (i : Nat) {k j l : Nat} {x : Str} {p pos : Pos} {e : Expr} {es : List Expr} {ms : M (List D)} {tb : Str → Option (Nat × MS)} (hd : ∀ g q, tb g = some q → ∃ k' N ps, k' ≤ k ∧ N.length = q.1 ∧ ps.length = l ∧ DefX X.prog X.w X.K X.mg X.base k' g N ps [] q.2) (hr : Room k X.A) (hs : LA X (e :: es) ms) (hl : LenIs ms j) (hj : j = l) (hN : X.N[i]? = some x := by rfl) (hv : Vis X.env.scope x := by first | exact Or.inl rfl | exact Or.inr (Or.inl rfl) | exact Or.inr (Or.inr rfl))
    (hdb : (x == ("__debug__" : Str)) = false := by decide) (hcd : (x == ("__classdict__" : Str)) = false := by decide) (he : starEach (e :: es) X.env = (false, eval e X.env) :: starEach es X.env := by rfl) (hpl : (backTo pos (starEach es X.env)).any (·.1) = false := by rfl) :
    DE X (.Call (.Name x p) (e :: es) [] pos) (dispM i tb ms) := by
  constructor
  rintro pins s σ H Q I ⟨sd, W, d, sd', st, em, q⟩
  obtain ⟨d0, s1, e1, em⟩ := bindM_some em
  obtain ⟨e0, rfl⟩ := mVar_some e1
  obtain ⟨v, hv', r⟩ := st.dat i d0 e0
  cases r with
  | @cls f g hm =>
    dsimp only at em
    cases hy : tb g with
    | some y =>
      rw [hy] at em
      obtain ⟨k', N, ps, hk', hn, hps, f', fd, F, hm', hkp, hb⟩ := hd g y hy
      rw [hm] at hm'
      cases hm'
      refine (pe_callL (E := E0) F (hr.mono hk') hN hv hkp hb .nil pass0 hs hdb hcd he hpl).run pins s σ H Q I ⟨hv', ?_⟩
      exact t_callD (E := E0) hn (fun q s s' z => by rw [List.length_append, hl q s s' z, hps]; exact hj) (fun _ => .nil) ⟨_, W, d, sd', st, em, q⟩
    | none =>
      rw [hy] at em
      cases em
  | _ => cases em
/-- a table of defs, as a list -/
def dtab : List (Str × Nat × MS) → Str → Option (Nat × MS)
  | [], _ => none
  | (g, q) :: r, x => if x = g then some q else dtab r x
inductive DTab (P : Program) (w : World) (K : PySem.W.Frag) (mg : Str → Option Value) (base : Heap) (k l : Nat) : List (Str × Nat × MS) → Prop where
  | nil : DTab P w K mg base k l []
  | cons {g : Str} {n k' : Nat} {N ps : List Str} {m : MS} {r : List (Str × Nat × MS)} (d : DefX P w K mg base k' g N ps [] m) (hk : k' ≤ k) (hn : N.length = n) (hp : ps.length = l) (h : DTab P w K mg base k l r) : DTab P w K mg base k l ((g, n, m) :: r)
theorem DTab.ok {P : Program} {w : World} {K : PySem.W.Frag} {mg : Str → Option Value} {base : Heap} {k l : Nat} : ∀ {r : List (Str × Nat × MS)}, DTab P w K mg base k l r → ∀ g q, dtab r g = some q → ∃ k' N ps, k' ≤ k ∧ N.length = q.1 ∧ ps.length = l ∧ DefX P w K mg base k' g N ps [] q.2
  | _, .nil, g, q, h => nomatch h
  | _, .cons (g := g0) d hk hn hp r, g, q, h => by
    unfold dtab at h
    split at h
    · rename_i e
      cases h
      subst e
      exact ⟨_, _, _, hk, hn, hp, d⟩
    · exact r.ok g q h
/-! x.get(k, d), x a dict with tuples for keys -/
section
variable {X : Cx} {A : Around} {E : Value → Shared → Prop} {pins : List (Addr × Obj)} {s : Shared} {σ : L2.St} {H : Hp} {a : Addr} {y v : V} {o : Option V} {u r : Value}
end
/-! a def that calls itself: as deep as a number says -/
end Fli
set_option Elab.async false
set_option linter.all false
set_option maxRecDepth 100000
namespace Fli
open PySem PySem.Spec PyProof.Rows L2 RZ
/-! zip of two tuples -/
def zipT : List D → Option (List D)
  | [.tup ds, .tup es] => some ((ds.zip es).map fun p => .tup [p.1, p.2])
  | _ => none
section
variable [HW] {b : Bool} {K : PySem.W.Frag} {mg : Str → Option Value} {W : Hp}
theorem iot_zipT {a c : Addr} {vs us : List V} {ds es : List D} (s : SqF K W a vs) (t : SqF K W c us) (r : DRs K mg W vs ds) (q : DRs K mg W us es) : Iot true K mg W (ItzT K a c) ((ds.zip es).map fun p => .tup [p.1, p.2]) where
  go i H le hi := by
    have hi : i < ds.length ∧ i < es.length := by simp only [List.length_map, List.length_zip] at hi; omega
    exact ⟨vs, us, vs[i]'(by rw [r.len]; exact hi.1), us[i]'(by rw [q.len]; exact hi.2), st_le le s, st_le le t, by simp, by simp⟩
  stop i H le hi := ⟨vs, us, st_le le s, st_le le t, by simp only [List.length_map, List.length_zip] at hi; rw [r.len, q.len]; omega⟩
  yld i H x H' W' l1 l2 y d hd := by
    obtain ⟨T, x, z, rfl, hT, rfl, f1, f2⟩ := y
    obtain ⟨d', e, rd⟩ := r.get' (f1 vs (st_le (l1.trans l2) s))
    obtain ⟨e', e2, re⟩ := q.get' (f2 us (st_le (l1.trans l2) t))
    have hz : (ds.zip es)[i]? = some (d', e') := List.getElem?_zip_eq_some.mpr ⟨e, e2⟩
    rw [List.getElem?_map, hz] at hd
    cases hd
    exact .inr ⟨rfl, T, _, _, rfl, hT, rfl, rfl, .cons (rd.le l1) (.cons (re.le l1) .nil)⟩
theorem iw_zipT {X : Cx} {e e2 : Expr} {ms : M (List D)} {p p3 tpos : Pos} {elts : List Expr} {kk : Nat} (hi : LA X [e, e2] ms) (hr : Gl X "zip") (hm : X.mg "zip" = none)
    (hs : starEach [e, e2] X.env = (false, eval e X.env) :: starEach [e2] X.env := by rfl) (hpl : (backTo p3 (starEach [e2] X.env)).any (·.1) = false := by rfl) :
    IW true X (.Tuple elts kk tpos) (.Call (.Name "zip" p) [e, e2] [] p3) (bindM ms fun ds => optM (zipT ds)) := pi_imp (pi_zipA (elts := elts) (kk := kk) (tpos := tpos) hr hm hi hs hpl) fun σ H R ⟨sd, W, ds, sd', st, em, q⟩ => by
  obtain ⟨d, s1, e1, em⟩ := bindM_some em
  obtain ⟨e2, rfl⟩ := optM_some em
  unfold zipT at e2
  split at e2
  · cases e2
    refine ⟨sd, W, _, sd', st, e1, fun vs H1 W1 st1 k1 r1 => ?_⟩
    cases r1 with
    | cons r1 r2 =>
      cases r2 with
      | cons r2 r3 =>
        cases r3
        cases r1 with
        | @tup a vs _ sa ra =>
          cases r2 with
          | @tup a2 us _ sb rb => exact ⟨a, a2, vs, us, rfl, .inr ⟨st_le st1.le sa, st_le st1.le sb, q _ H1 W1 st1 k1 (iot_zipT sa sb ra rb)⟩⟩
  · cases e2
end
end Fli
set_option Elab.async false
set_option linter.all false
set_option maxRecDepth 100000
set_option maxHeartbeats 4000000
namespace Fli
open PySem PySem.Spec PyProof.Rows L2
variable [HW]
/-! x is y, both true or false -/
section
variable {X : Cx} {K : PySem.W.Frag} {mg : Str → Option Value}
end
end Fli
set_option Elab.async false
set_option linter.all false
set_option maxRecDepth 100000
set_option maxHeartbeats 4000000
/-! zip of a list and a tuple as long as it is -/
namespace Fli
open PySem PySem.Spec PyProof.Rows L2 RZ
/-- the list at a and the tuple at b as they stand at each turn, in new pairs -/
def ItzM (K : PySem.W.Frag) (a b : Addr) : It :=
  ⟨fun i H => ∃ (xs ys : List V) (x y : V), SqL K H a xs ∧ SqT K H b ys ∧ xs[i]? = some x ∧ ys[i]? = some y,
    fun i H v H' => ∃ T x y, v = .ref T ∧ H T = none ∧ H' = upd H T (.tup [x, y]) ∧ (∀ xs, SqL K H a xs → xs[i]? = some x) ∧ ∀ ys, SqT K H b ys → ys[i]? = some y,
    fun i H => ∃ xs : List V, SqL K H a xs ∧ xs.length ≤ i⟩
section
variable {prog : Program} {w : World} {A : Around} {E : Value → Shared → Prop} {s : Shared}
theorem zipM_end {z TI TO i1 i2 l : Addr} {k : Nat} {us : Array Value} {a b : Value} {Q : Fin → Shared → Prop} (hh : A.handled = none) (i1z : i1 ≠ z) (l1z : l ≠ z)
    (hz : IsZip s.heap z TI TO .none) (hI : IsPair s.heap TI (.ref i1) (.ref i2)) (hO : IsPair s.heap TO a b) (h1 : s.heap.IsListIter i1 l k) (hl : s.heap.IsList l us) (hu : us[k]? = none)
    (q : ∀ g e, (∀ c o, c ≠ z → c ≠ i1 → s.heap.get? c = some o → g.get? c = some o) → (∃ o, g.get? e = some o ∧ o.cls = .type "StopIteration") → E (.ref e) { s with heap := g }) :
    wpAny (model prog w) A (Builtin.«zip.__next__» ⟨[.ref z], []⟩) Q E s := by
  refine wpAny_bind (m := field (.ref z) 2) (wpAny_field hz rfl (x := .bool false) rfl ?_)
  refine wpAny_bind (m := field (.ref z) 3) (wpAny_field hz rfl (x := .ref TI) rfl (wpAny_bind (wpAny_seqItems hI rfl ?_)))
  refine wpAny_bind (m := Builtin.SmallTypes.ownedTupleIsFree (.ref z)) ?_
  unfold Builtin.SmallTypes.ownedTupleIsFree
  refine wpAny_bind (wpAny_field hz rfl (x := .none) rfl (wpAny_pure ?_))
  simp only [if_true]
  refine wpAny_bind (wpAny_rule (wpAny_bind (wpAny_field hz rfl (x := .ref TO) rfl (wpAny_bind (wpAny_setField_rec hz (by simp) fun g1 z1 m1 => ?_)))))
  have z1 : IsZip g1 z TI TO .ellipsis := z1
  refine wpAny_bind ?_
  simp only [List.zipIdx_cons, List.zipIdx_nil, List.forIn_cons, List.forIn_nil]
  refine wpAny_bind (wpAny_bind (wpAny_onRaise (show wpAny _ _ (Builtin.SmallTypes.nextOf (.ref i1) >>= _) _ _ _ from ?_)))
  refine wpAny_bind (wpAny_nextOf_list_end hh (h1.extBut m1.extBut i1z) (hl.extBut m1.extBut l1z) hu fun g2 e m2 ⟨oe, he, hce⟩ => ?_)
  have z2 : IsZip g2 z TI TO .ellipsis := m2 _ _ i1z.symm z1
  have ez : e ≠ z := fun x => by rw [x, z2] at he; cases he; simp at hce
  exact wpAny_setField_rec z2 (by simp) fun g3 _ m3 => q g3 e (fun c o n1 n3 x => m3.extBut _ _ n1 (m2 _ _ n3 (m1.extBut _ _ n1 x))) ⟨oe, m3.extBut _ _ ez he, hce⟩
theorem pyNext_zipM_end {z TI TO i1 i2 l : Addr} {k : Nat} {us : Array Value} {a b : Value} {Q : Option Value → Shared → Prop} (hh : A.handled = none) (i1z : i1 ≠ z) (l1z : l ≠ z)
    (hz : IsZip s.heap z TI TO .none) (hI : IsPair s.heap TI (.ref i1) (.ref i2)) (hO : IsPair s.heap TO a b) (h1 : s.heap.IsListIter i1 l k) (hl : s.heap.IsList l us) (hu : us[k]? = none)
    (q : ∀ g, (∀ c o, c ≠ z → c ≠ i1 → s.heap.get? c = some o → g.get? c = some o) → Q none { s with heap := g }) : wpAny (model prog w) A (pyNext (.ref z)) Q E s := by
  have ty : s.TypeIs (.ref z) "zip" := ⟨_, hz, rfl⟩
  unfold pyNext
  refine wpAny_bind (wpAny_attempt (wpAny_callSpecial?_slot (name := Str.ofString "__next__") ty F.slot_zip_next (wpAny_call_entry F.slot_zip_next ty F.entry_zip_next (zipM_end hh i1z l1z hz hI hO h1 hl hu fun g e keep ⟨o, ho, hc⟩ => ?_) (F.args_zip_next_1 _))))
  exact wpAny_bind (wpAny_isInstance (T := "StopIteration") (b := true) ⟨o, ho, hc⟩ isSubtype_stop (wpAny_pure (q _ keep)))
end
theorem sep2 {n a b : Nat} (ha : a < n) (hb : b < n) : ZipSep2 (n + 4) (n + 2) (n + 3) n (n + 1) [n, a] [n + 1, b] := by
  refine ⟨?_, ?_, ?_, ?_, ?_, ?_, ?_, ?_, ?_, ?_, ?_, ?_, ?_⟩ <;> simp <;> first | exact Nat.ne_of_gt (Nat.lt_of_lt_of_le ha (Nat.le_add_right n _)) | exact Nat.ne_of_gt (Nat.lt_of_lt_of_le hb (Nat.le_add_right n _)) | exact Nat.ne_of_gt ha | exact Nat.ne_of_gt hb
theorem turn_zipM {P : Program} {w : World} {K : PySem.W.Frag} {elts : List Expr} {kk : Nat} {tpos : Pos} {n a b : Nat} (ha : a < n) (hb : b < n) :
    L2.Turn P w K (.Tuple elts kk tpos) (ItzM K a b) [n + 4, n + 2, n + 3, n, n + 1] (n + 4) (fun i h => IsZip h (n + 4) (n + 2) (n + 3) .none ∧ IsTupOf2 h (n + 2) (.ref n) (.ref (n + 1)) ∧ (∃ x y, IsTupOf2 h (n + 3) x y) ∧ h.IsListIter n a i ∧ h.IsTupleIter (n + 1) b i) where
  mem := by simp
  obj := fun i h st c hc => by
    obtain ⟨hz, hTI, ⟨x, y, hTO⟩, ⟨o1, e1, _, d1⟩, ⟨o2, e2, _, d2⟩⟩ := st
    simp only [List.mem_cons, List.not_mem_nil, or_false] at hc
    rcases hc with q | q | q | q | q
    · rw [q]; exact ⟨_, hz, fun v q => nomatch q⟩
    · rw [q]; exact ⟨_, hTI, fun v q => nomatch q⟩
    · rw [q]; exact ⟨_, hTO, fun v q => nomatch q⟩
    · rw [q]; exact ⟨o1, e1, fun v q => by rw [d1] at q; cases q⟩
    · rw [q]; exact ⟨o2, e2, fun v q => by rw [d2] at q; cases q⟩
  keep := fun i h h' st k => by
    obtain ⟨hz, hTI, ⟨x, y, hTO⟩, h1, h2⟩ := st
    exact ⟨k (n + 4) (by simp) _ hz, k (n + 2) (by simp) _ hTI, ⟨x, y, k (n + 3) (by simp) _ hTO⟩, h1.at fun o q => k n (by simp) o q, h2.at fun o q => k (n + 1) (by simp) o q⟩
  item := by
    intro X hP hw hK hc i pins s σ H E I hf st hg
    subst hP hw hK
    obtain ⟨hz, hTI, ⟨x0, y0, hTO⟩, h1, h2⟩ := st
    obtain ⟨xs, ys, x, y, hqx, hqy, hx, hy⟩ := hg
    obtain ⟨its, rv, p, _⟩ := I.list hqx
    obtain ⟨its2, rv2, p2, _⟩ := I.tuple hqy
    obtain ⟨u, hu, ru⟩ := rv.get hx
    obtain ⟨u2, hu2, ru2⟩ := rv2.get hy
    have hzl : n + 4 < s.heap.objs.size := Heap.lt_size hz
    have hh := I.ok.hd hc
    have g1 : i < its.toArray.size := by have := (List.getElem?_eq_some_iff.mp hu).1; simpa using this
    have g2 : i < its2.toArray.size := by have := (List.getElem?_eq_some_iff.mp hu2).1; simpa using this
    refine wpAny_pyNext_zipD2_item (i := i) (sep2 ha hb) (Draws.list (A := X.A.in1) hh n a (Nat.ne_of_lt ha) its.toArray) (Draws.tuple (A := X.A.in1) hh (n + 1) b (Nat.ne_of_lt (Nat.lt_succ_of_lt hb)) its2.toArray) hz hTI hTO ⟨h1, p.isList⟩ ⟨h2, p2⟩ g1 g2 fun v1 v2 h' tk p1 p2 z' TO' h1' h2' hT hsz hk => ?_
    have ev1 : v1 = u := by
      have p1 : its.toArray[i]? = some v1 := p1
      rw [List.getElem?_toArray, hu] at p1
      exact (Option.some.inj p1).symm
    have ev2 : v2 = u2 := by
      have p2 : its2.toArray[i]? = some v2 := p2
      rw [List.getElem?_toArray, hu2] at p2
      exact (Option.some.inj p2).symm
    subst ev1 ev2
    refine ⟨_, rfl, wpAny_letOwnedTupleGo_zip (s := { s with heap := h', toks := tk }) z' fun h'' z'' sb => ?_⟩
    have hT2 : h''.get? s.heap.objs.size = some { cls := .type "tuple", data := .seq #[v1, v2] } := (sb.2 _ (Nat.ne_of_gt hzl)).trans hT
    have new : ObjOk X.prog X.w (upd H s.heap.objs.size (.tup [x, y])) h'' s.heap.objs.size (.tup [x, y]) :=
      ⟨by show 2 ≤ sizeLine; decide, [v1, v2], .cons ru (.cons ru2 .nil), ⟨_, hT2, rfl, _, rfl⟩⟩
    have off : ∀ c, c ∉ [n + 4, n + 2, n + 3, n, n + 1] → c ≠ n + 4 ∧ c ≠ n + 2 ∧ c ≠ n + 3 ∧ c ≠ n ∧ c ≠ n + 1 := fun c hc => by simpa using hc
    have I1 : Inv X pins σ (upd H s.heap.objs.size (.tup [x, y])) { s with heap := h'', toks := tk } :=
      I.turnedNew (t' := tk) (ch := [n + 4, n + 2, n + 3, n, n + 1]) (fun c o hb q => by
        obtain ⟨q1, q2, q3, q4, q5⟩ := off c hb
        exact (sb.2 c q1).trans (hk c o q1 q3 q4 q5 q)) hf (Nat.le_refl _) new
    refine ⟨.ref s.heap.objs.size, _, I1, rfl, ⟨_, x, y, rfl, I.hok.fresh (Nat.le_refl _), rfl, fun l hl => by rw [I.list_inj hl hqx]; exact hx, fun l hl => by rw [I.tuple_inj hl hqy]; exact hy⟩, ⟨z'', ?_, ⟨v1, v2, ?_⟩, ?_, ?_⟩, fun c hcm => ?_⟩
    · exact (sb.2 _ (by first | (simp; done) | omega)).trans (hk _ _ (by first | (simp; done) | omega) (by first | (simp; done) | omega) (by first | (simp; done) | omega) (by first | (simp; done) | omega) hTI)
    · exact (sb.2 _ (by first | (simp; done) | omega)).trans TO'
    · exact h1'.1.at fun o q => (sb.2 _ (by first | (simp; done) | omega)).trans q
    · exact h2'.1.at fun o q => (sb.2 _ (by first | (simp; done) | omega)).trans q
    · have hle : c ≤ n + 4 := by
        simp only [List.mem_cons, List.not_mem_nil, or_false] at hcm
        rcases hcm with q | q | q | q | q <;> rw [q] <;> simp
      have hlt : c < s.heap.objs.size := Nat.lt_of_le_of_lt hle hzl
      rw [upd_ne (Nat.ne_of_lt hlt)]
      exact (hf c hcm).1
  done := by
    intro X hP hw hK hc i pins s σ H E I hf st hg
    subst hP hw hK
    obtain ⟨hz, hTI, ⟨x0, y0, hTO⟩, h1, h2⟩ := st
    obtain ⟨xs, hqx, hend⟩ := hg
    obtain ⟨its, rv, p, _⟩ := I.list hqx
    have l1 := rv.length
    have he : its.toArray[i]? = none := by simp; omega
    have hh := I.ok.hd hc
    have off : ∀ c, c ∉ [n + 4, n + 2, n + 3, n, n + 1] → c ≠ n + 4 ∧ c ≠ n + 2 ∧ c ≠ n + 3 ∧ c ≠ n ∧ c ≠ n + 1 := fun c hc => by simpa using hc
    exact pyNext_zipM_end hh (by simp) (Nat.ne_of_lt (Nat.lt_of_lt_of_le ha (Nat.le_add_right n 4))) hz hTI hTO h1 p.isList he fun g keep => ⟨rfl, I.turnedL (t' := s.toks) (ch := [n + 4, n + 2, n + 3, n, n + 1]) (fun c o hb q => by
      obtain ⟨q1, q2, q3, q4, q5⟩ := off c hb
      exact keep c o q1 q4 q) hf⟩
  self := fun A i s Q E st h => wpAny_pyIter_zip st.1 h
def iZipM (K : PySem.W.Frag) (ta : TA) : TI := fun σ H R => ta σ H fun vs H1 => ∃ a b xs ys, vs = [.ref a, .ref b] ∧ SqL K H1 a xs ∧ SqT K H1 b ys ∧ R (ItzM K a b) H1
theorem pi_zipM {X : Cx} {e e2 : Expr} {ta : TA} {p pos tpos : Pos} {elts : List Expr} {kk : Nat} (hg : Gl X "zip") (hm : X.mg "zip" = none) (ha : PA X [e, e2] ta)
    (hs : starEach [e, e2] X.env = (false, eval e X.env) :: starEach [e2] X.env := by rfl) (hpl : (backTo pos (starEach [e2] X.env)).any (·.1) = false := by rfl) :
    PI X (.Tuple elts kk tpos) (.Call (.Name "zip" p) [e, e2] [] pos) (iZipM X.K ta) := by
  refine ⟨fun pins s σ H R I h => ?_⟩
  refine Call_ (ld_blt I hg hm PyProof.Rows.boot_zip (PyProof.Rows.callWith_type1 (thn (ha.run pos pins s σ H _ I h) fun us s1 ⟨vs, H1, I1, r1, q1⟩ => ?_) hs hpl))
  obtain ⟨a, b, xs, ys, rfl, hqx, hqy, q⟩ := q1
  cases r1 with
  | cons r rr =>
    cases rr with
    | cons r2 rr =>
      cases rr
      cases r
      cases r2
      have fresh : ∀ c, c ∈ [s1.heap.objs.size + 4, s1.heap.objs.size + 2, s1.heap.objs.size + 3, s1.heap.objs.size, s1.heap.objs.size + 1] → FpOk X pins H1 c := fun c hcm => by
        have hle : s1.heap.objs.size ≤ c := by
          simp only [List.mem_cons, List.not_mem_nil, or_false] at hcm
          rcases hcm with q | q | q | q | q <;> rw [q] <;> simp
        exact I1.fpOk hle (I1.hok.fresh hle)
      obtain ⟨its, rv, p1, _⟩ := I1.list hqx
      obtain ⟨its2, rv2, p2, _⟩ := I1.tuple hqy
      obtain ⟨o2, ho2, _⟩ := id p2
      refine zip_begins2 (begins_list a its.toArray) (begins_tuple b its2.toArray) p1.isList (show s1.heap.IsTuple b its2.toArray from p2) fun g hz hTI hTO h1 h2 _ up => wpAny_pyIter_zip hz ?_
      have I2 : Inv X pins σ H1 { s1 with heap := g } := I1.kept (t' := s1.toks) up
      exact ⟨s1.heap.objs.size + 4, [s1.heap.objs.size + 4, s1.heap.objs.size + 2, s1.heap.objs.size + 3, s1.heap.objs.size, s1.heap.objs.size + 1], _, _, H1, rfl, I2, turn_zipM p1.lt (Heap.lt_size ho2), ⟨hz, hTI, ⟨_, _, hTO⟩, ⟨_, h1, rfl, rfl⟩, ⟨_, h2, rfl, rfl⟩⟩, fresh, q⟩
/-- the pairs of a list and a tuple as long as it is -/
def zipLT : List D → Option (List D)
  | [.lst ds, .tup es] => if ds.length = es.length then some ((ds.zip es).map fun p => .tup [p.1, p.2]) else none
  | _ => none
section
variable [HW] {b : Bool} {K : PySem.W.Frag} {mg : Str → Option Value} {W : Hp}
theorem iot_zipM {a c : Addr} {vs us : List V} {ds es : List D} (s : ∀ H, Le W H → SqL K H a vs) (t : SqF K W c us) (r : DRs K mg W vs ds) (q : DRs K mg W us es) (hl : ds.length = es.length) : Iot true K mg W (ItzM K a c) ((ds.zip es).map fun p => .tup [p.1, p.2]) where
  go i H le hi := by
    have hi : i < ds.length ∧ i < es.length := by simp only [List.length_map, List.length_zip] at hi; omega
    exact ⟨vs, us, vs[i]'(by rw [r.len]; exact hi.1), us[i]'(by rw [q.len]; exact hi.2), s H le, st_le le t, by simp, by simp⟩
  stop i H le hi := ⟨vs, s H le, by simp only [List.length_map, List.length_zip] at hi; rw [r.len]; omega⟩
  yld i H x H' W' l1 l2 y d hd := by
    obtain ⟨T, x, z, rfl, hT, rfl, f1, f2⟩ := y
    obtain ⟨d', e, rd⟩ := r.get' (f1 vs (s _ (l1.trans l2)))
    obtain ⟨e', e2, re⟩ := q.get' (f2 us (st_le (l1.trans l2) t))
    have hz : (ds.zip es)[i]? = some (d', e') := List.getElem?_zip_eq_some.mpr ⟨e, e2⟩
    rw [List.getElem?_map, hz] at hd
    cases hd
    exact .inr ⟨rfl, T, _, _, rfl, hT, rfl, rfl, .cons (rd.le l1) (.cons (re.le l1) .nil)⟩
theorem iw_zipLT {X : Cx} {e e2 : Expr} {ms : M (List D)} {p p3 tpos : Pos} {elts : List Expr} {kk : Nat} (hi : LA X [e, e2] ms) (hr : Gl X "zip") (hm : X.mg "zip" = none)
    (hs : starEach [e, e2] X.env = (false, eval e X.env) :: starEach [e2] X.env := by rfl) (hpl : (backTo p3 (starEach [e2] X.env)).any (·.1) = false := by rfl) :
    IW true X (.Tuple elts kk tpos) (.Call (.Name "zip" p) [e, e2] [] p3) (bindM ms fun ds => optM (zipLT ds)) := pi_imp (pi_zipM (elts := elts) (kk := kk) (tpos := tpos) hr hm hi hs hpl) fun σ H R ⟨sd, W, ds, sd', st, em, q⟩ => by
  obtain ⟨d, s1, e1, em⟩ := bindM_some em
  obtain ⟨e2, rfl⟩ := optM_some em
  unfold zipLT at e2
  split at e2
  · split at e2
    · rename_i hc
      cases e2
      refine ⟨sd, W, _, sd', st, e1, fun vs H1 W1 st1 k1 r1 => ?_⟩
      cases r1 with
      | cons r1 r2 =>
        cases r2 with
        | cons r2 r3 =>
          cases r3
          cases r1 with
          | @lst a vs _ sa ra =>
            cases r2 with
            | @tup a2 us _ sb rb => exact ⟨a, a2, vs, us, rfl, .inl (.inl (st1.le _ _ sa)), st_le st1.le sb, q _ H1 W1 st1 k1 (iot_zipM (fun H le => .inl (.inl (le _ _ sa))) sb ra rb hc)⟩
    · cases e2
  · cases e2
end
end Fli
set_option Elab.async false
set_option linter.all false
set_option maxRecDepth 100000
set_option maxHeartbeats 4000000
/-! a tuple repeated, the empty one too -/
namespace Fli
open PySem PySem.Spec PyProof.Rows L2
section
variable [HW]
variable {X : Cx}
end
end Fli
set_option Elab.async false
set_option linter.all false
set_option maxRecDepth 100000
set_option maxHeartbeats 4000000
/-! try: .. except C: .., where all that the body raises is of the class C -/
namespace Fli
open PySem PySem.Spec PyProof.Rows L2
variable [HW]
/-- the class that a name tells, and that it catches its own -/
def ExOwn (K : PySem.W.Frag) (mg : Str → Option Value) (c : Str) : Prop := ∃ C, mg c = some (.ref C) ∧ PySem.W.exmOne K (.ref C) (.ref C) = some true
/-- what is caught leads on in the suite -/
def tryM1 (c : Str) (r : R) (m h : MS) : MS := fun s => match r s with
  | some (x, s') => if x.c = c then h s' else none
  | none => m s
section
variable {X : Cx} {pr : List Nat} {c : Str} {body suite : List Stmt} {b₀ : Stmt} {np pos pos' : Pos} {m h : MS} {r : R}
theorem s_try1 (E : ExOwn X.K X.mg c) (hg : Gl X c) (hs : X.stack = X.env :: X.outer) (hf : X.env.frame = some X.env.locals)
    (hm : ∀ (pn : List (Addr × Obj)) (xe : Value → Shared → Prop), PassesOwn (model X.prog X.w) X.A X.env xe → SEs (X.tr pn xe) pr body m)
    (hr : ∀ (pn : List (Addr × Obj)) (xe : Value → Shared → Prop), PassesOwn (model X.prog X.w) X.A X.env xe → RSs (X.tr pn xe) pr body r)
    (hsu : ∀ (a : Addr) (oe : Obj) (pn : List (Addr × Obj)), SEs (X.suite a ((a, oe) :: pn)) pr (b₀ :: suite) h) (hdb : (c == ("__debug__" : Str)) = false := by decide) :
    SE X pr (.Try body [.ExceptHandler (some (.Name c np)) none (b₀ :: suite) pos'] [] [] pos) (tryM1 c r m h) := by
  obtain ⟨C, e1, e2⟩ := E
  refine PS.imp (ps_try_only (x := c) (c := .ref C) (tb := fun W D σ H => tM X.K X.mg pr m D σ H ∨ tX X.K X.mg pr r W σ H) (ts := fun _ _ _ D σ H => tM X.K X.mg pr h D σ H) (Wout := fun _ _ _ _ => False) hs hf ⟨hg, hdb, .inl e1⟩ (fun u s' ⟨a, B, sI, pins, σ, H, cls, d, e, I, nb, up, sky, na, os, ag, w⟩ => w.elim)
    (fun W pn xe tk po => ⟨fun pins s σ H D I q => q.elim ((hm pn xe po).run pins s σ H D I) ((hr pn xe po W tk).run pins s σ H D I)⟩) (fun a oe cls d pn _ _ => hsu a oe pn)) fun D σ H ⟨sd, W, out, st, em, post⟩ => ?_
  unfold tryM1 at em
  split at em
  · rename_i x s' ex
    split at em
    · rename_i hc
      refine .inr ⟨sd, W, x, s', st, ex, fun cls d σ' H' W' st' k' p' xr => ?_⟩
      obtain ⟨C', w1, rfl, w2⟩ := xr
      rw [hc] at w1
      have w1 : X.mg c = some (.ref C') := w1
      rw [e1] at w1
      cases w1
      exact ⟨true, e2, fun _ a _ => ⟨s', W', out, st', em, post.behind k' p'⟩, fun z => nomatch z⟩
    · cases em
  · exact .inl ⟨sd, W, out, st, em, post⟩
end
theorem exOwn_mk {K : PySem.W.Frag} {mg : Str → Option Value} {h : Heap} {c : Str} {C : Addr} (X : K.In h) (G : h.Ns mainGlobals mg) (ac : PySem.W.nsIn K mainGlobals c = some (some (.ref C))) (x1 : PySem.W.exmOne K (.ref C) (.ref C) = some true) : ExOwn K mg c :=
  ⟨C, PySem.W.mg_of X G ac, x1⟩
end Fli
set_option Elab.async false
set_option linter.all false
set_option maxRecDepth 100000
set_option maxHeartbeats 4000000
/-! a classmethod that raises -/
namespace Fli
open PySem PySem.Spec PyProof.Rows L2
variable [HW]
section
variable {X : Cx} {pins : List (Addr × Obj)} {σ : L2.St} {H : Hp} {s : Shared} {CX : CXT} {k : Nat} {C p g : Addr} {fd : FuncData} {ps : List Str} {mc : Value} {sp : Sp} {o e : Expr} {es : List Expr} {m : Str} {pos apos : Pos} {ta : TE} {t : TA} {pl : Sem Bool}
theorem run_cmS {q : Addr} {E : L2.St → XK} {Q : VK} {us : List Value} {vs : List V} (F : FnOk X.prog X.w X.K X.mg X.base CX k g fd ps sp) (hr : Room k X.A) (hb : Binds X.K fd ps []) (hx : PassesAt CX X σ (E σ)) (I : Inv X ((q, PySem.W.methodObj (.ref g) (.ref C)) :: pins) σ H s)
    (r : Vals vs us) (h : sp (.ref C :: vs) H Q (E σ)) : wpAny (model X.prog X.w) X.A (call (.ref q) us) (EP X pins σ Q) X.xe s := by
  have hl : (Value.ref C :: us).length = ps.length := by rw [List.length_cons, ← r.length]; exact F.len _ _ _ _ h
  have b := hb s (.ref C :: us) I.kIn (by rw [List.append_nil]; exact hl)
  rw [List.append_nil] at b
  have z : wpAny (model X.prog X.w) X.A (call (.ref q) us) (EP X ((q, PySem.W.methodObj (.ref g) (.ref C)) :: pins) σ Q) X.xe s := by
    refine wpAny_call (PySem.W.method_call (ClX.pin_at I) (codeAny_mono (F.run X.A X.stack s H ⟨.ref C :: us, []⟩ (.ref C :: us) (.ref C :: vs) Q (E σ) hr I.env0 b (.cons rfl r) h) fun r s' hq => ?_))
    cases r with
    | error e => exact hx _ H s e s' I hq
    | ok fl =>
      cases fl with
      | ret u => exact I.after hq
      | next => exact False.elim hq
      | brk => exact False.elim hq
      | cont => exact False.elim hq
  exact thn z fun _ _ y => ClX.unpinE y
theorem pe_cmethS {E : L2.St → XK} (he : PE X o ta) (r : ClX.CRead X.K C mc) (c : ClX.CMet X.K C mc m p g) (F : FnOk X.prog X.w X.K X.mg X.base CX k g fd ps sp) (hb : Binds X.K fd ps []) (hr : Room k X.A) (hx : ∀ σ, PassesAt CX X σ (E σ)) (ha : PA X (e :: es) t)
    (hst : starEach (e :: es) X.env = (false, eval e X.env) :: starEach es X.env := by rfl) (hpl : (backTo pos (starEach es X.env)).any (·.1) = false := by rfl)
    (ht : eval (.Call (.Attribute o m apos) (e :: es) [] pos) X.env = (do
      let ov ← eval o X.env
      standAt apos.atName
      let (f, first) ← holding [ov] (getMethod ov m pl)
      callWith pos f first (backTo pos (starEach (e :: es) X.env)) (backToKw pos (keywordEach [] X.env))) := by rfl) :
    PE X (.Call (.Attribute o m apos) (e :: es) [] pos) (fun σ H Q => ta σ H fun x H1 => x = .ref C ∧ t σ H1 fun vs H2 => sp (.ref C :: vs) H2 Q (E σ)) := by
  refine ⟨fun pins s σ H Q I h => ?_⟩
  refine PySem.W.methodCall_KW (pl := pl) (thn (he.run pins s σ H _ I h) fun u s1 ⟨x, H1, I1, rx, ex, q⟩ => ?_) ht
  subst ex
  obtain rfl : u = Value.ref C := rx
  refine ClX.getmethcm_ok I1 r c fun s2 I2 => ?_
  refine ClX.callwith_cm I2 (ClX.base_none I1 (Nat.le_refl _)) c.fi (thn (ha.run pos _ s2 σ H1 _ I2 q) fun us s3 ⟨vs, H2, I3, rv, q2⟩ => ⟨⟨ClX.pin_at I3, I3.kIn⟩, ?_⟩) hst hpl
  exact run_cmS F hr hb (hx σ) I3 rv q2
end
/-- a classmethod that raises -/
def CmR (P : Program) (w : World) (K : PySem.W.Frag) (mg : Str → Option Value) (base : Heap) (k : Nat) (c m : Str) (N ps : List Str) (r : R) : Prop :=
  ∃ C mc p f fd, mg c = some (.ref C) ∧ ClX.CRead K C mc ∧ ClX.CMet K C mc m p f ∧ FnOk P w K mg base (L2.CX P w) k f fd ps (spR K mg N ps [] r) ∧ Binds K fd ps []
theorem CmF.cmR {P : Program} {w : World} {K : PySem.W.Frag} {mg : Str → Option Value} {base : Heap} {c m q : Str} {C : Addr} {st : Stmt} {k : Nat} {N ps : List Str} {r : R} (F : CmF K C m q st) (hm : mg c = some (.ref C)) (ok : ∀ {f fd}, Fun K m q st f fd → FnOk P w K mg base (L2.CX P w) k f fd ps (spR K mg N ps [] r)) (b : BindsLike m q st ps) : CmR P w K mg base k c m N ps r := by
  obtain ⟨mc, p, f, fd, r, cm, F⟩ := F
  exact ⟨C, mc, p, f, fd, hm, r, cm, ok F, F.binds b⟩
section
variable {X : Cx} {k n j : Nat} {N ps : List Str} {r : R} {c nm : Str} {p2 apos po : Pos} {e : Expr} {es : List Expr} {ms : M (List D)}
theorem rx_cm {pl : Sem Bool} (d : CmR X.prog X.w X.K X.mg X.base k c nm N ps r) (hr : Room k X.A) (hg : Gl X c) (hn : N.length = n) (hs : LA X (e :: es) ms) (hl : LenIs ms j) (hj : j + 1 = ps.length) (hd : (c == ("__debug__" : Str)) = false := by decide)
    (hst : starEach (e :: es) X.env = (false, eval e X.env) :: starEach es X.env := by rfl) (hpl : (backTo po (starEach es X.env)).any (·.1) = false := by rfl)
    (ht : eval (.Call (.Attribute (.Name c p2) nm apos) (e :: es) [] po) X.env = (do
              let ov ← eval (.Name c p2) X.env
              standAt apos.atName
              let (f, first) ← holding [ov] (getMethod ov nm pl)
              callWith po f first (backTo po (starEach (e :: es) X.env)) (backToKw po (keywordEach [] X.env))) := by rfl) :
    RX X (.Call (.Attribute (.Name c p2) nm apos) (e :: es) [] po) (rcall n r (bindM ms fun ds => retM (.cls c :: ds))) := fun Wi tk => by
  obtain ⟨C, mc, p, f, fd, hm, rd, cm, F, hb⟩ := d
  refine PE.imp (pe_cmethS (E := fun σ => WE Wi σ) (pe_glob (v := .ref C) (u := .ref C) hg hm rfl hd) rd cm F hb hr (fun σ => passAt tk σ) hs hst hpl ht) fun σ H Q ⟨sd, W, x0, s', st, em, q⟩ => ?_
  simp only [rcall, Option.bind_eq_some_iff, Option.map_eq_some_iff] at em
  obtain ⟨⟨ds, s1⟩, e1, ⟨x1, s2⟩, e2, em⟩ := em
  cases em
  obtain ⟨ds0, s0, e0, e1⟩ := bindM_some e1
  cases e1
  refine ⟨rfl, sd, W, ds0, s1, st, e0, fun vs H1 W1 st1 k1 r1 => ⟨?_, _, _, x1, s2, st1.call hn (.cons (.cls hm) r1), e2, fun cls d σ' H' W' st' k' p' xr => ?_⟩⟩
  · rw [List.length_cons, r1.len, ← hj, hl _ _ _ e0]
  · obtain ⟨g1, g2⟩ := st1.after k' st' fun a => noown_start
    exact q cls d H' W' g1 (k1.trans g2) xr
end
end Fli
set_option Elab.async false
set_option linter.all false
set_option maxRecDepth 100000
set_option maxHeartbeats 4000000
/-! a dict is no tuple -/
namespace Fli
open PySem PySem.Spec PySem.SeqAt MeetsSeq PySem.W
open AutoSeq1 (wpAny_loadPart')
theorem tuple_eq_declines_dict (l b : Addr) (items : Array Value) (n : Nat) (dd dd2 : Option Addr) (sl sl2 : Array (Option Value)) (dat : Data) :
    Meets (Builtin.«tuple.__eq__» ⟨[.ref l, .ref b], []⟩) (fun _ R s => s.heap.get? l = some { cls := .type "tuple", dict := dd, data := .seq items n, slots := sl } ∧ s.heap.get? b = some { cls := .type "dict", dict := dd2, data := dat, slots := sl2 } ∧ R (.ok (.ret .notImplemented)) s) :=
  .of_wp fun prog w A R s h => by obtain ⟨hp, g, d, tk, os⟩ := s; obtain ⟨hl, hb, h⟩ := h; have f1 := F.sub_dict_tuple; wp_walk using wpAny_loadPart' hl, wpAny_loadPart' hb; exact ⟨_, rfl, h⟩
section
variable {prog : Program} {w : World} {K : Type} [DecidableEq K] {knd : KeyKind prog w K} {A : Around} {E Q : Value → Shared → Prop} {s : Shared}
theorem rc_dict_tuple {a b : Addr} {ka : List (K × Value)} {ob : Obj} {items : Array Value} {n : Nat} (da : s.heap.DictOf knd a ka) (eb : s.heap.get? b = some ob) (cb : ob.cls = .type "tuple") (db : ob.data = .seq items n) (hu : A.units < cLine) (h : Q (.bool false) s) : wpAny (model prog w) A (compareOp .Eq (.ref a) (.ref b)) Q E s := by
  have tya := da.typeIs
  have tyb : s.TypeIs (.ref b) "tuple" := ⟨_, eb, cb⟩
  obtain ⟨oa, es, ep, ea, exa, dta, _⟩ := id da
  have ca : oa.cls = .type "dict" := by
    obtain ⟨o2, e2, c2⟩ := tya
    rw [ea] at e2
    cases e2
    exact c2
  have hab : a ≠ b := by
    rintro rfl
    rw [ea] at eb
    cases eb
    rw [ca] at cb
    exact absurd cb (by simp)
  obtain ⟨cls, dd, data, sl⟩ := oa
  obtain ⟨cls2, dd2, data2, sl2⟩ := ob
  simp only at ca cb db
  subst ca cb db
  refine rc_eq_decline_or (k := false) tya tyb (by decide) F.sub_tuple_dict F.slot_dict_eq F.slot_tuple_eq_refl (fun Q' hq => ?_) (fun Q' hq => ?_) (fun Q' hq => wpAny_isSame_ref_other hab ea eb (by simp) hq) (.inr hu) h
  · refine wpAny_call_entry F.slot_dict_eq tya F.entry_dict_eq ?_ (F.args_dict_eq_2 _ _)
    show wpAny _ _ (Builtin.Dict.dictSlotArgs "__eq__" ⟨[.ref a, .ref b], []⟩ >>= _) _ _ s
    refine wpAny_bind ?_
    unfold Builtin.Dict.dictSlotArgs
    refine wpAny_bind (wpAny_notOrdered_dict tya ?_)
    show wpAny _ _ (pure (Value.ref a, Value.ref b)) _ _ s
    refine wpAny_pure ?_
    refine wpAny_bind (wpAny_isInstance (T := "tuple") tyb F.sub_tuple_dict ?_)
    simp only [Bool.not_false, if_true]
    first | (refine wpAny_bind (wpAny_rule ?_); exact wpAny_pure ⟨_, rfl, hq⟩) | (refine wpAny_bind ?_; wp_step; exact wpAny_pure ⟨_, rfl, hq⟩) | (repeat wp_step; exact ⟨_, rfl, hq⟩)
  · exact call_meets F.slot_tuple_eq_refl tyb F.entry_tuple_eq (F.args_tuple_eq_2 _ _) (tuple_eq_declines_dict b a items n dd2 dd sl2 sl data) ⟨eb, ea, hq⟩
end
open L2
section
variable {X : Cx}
def rEqT (K : PySem.W.Frag) : R2 := fun x y H Q => ∃ a b ks vs, x = .ref a ∧ y = .ref b ∧ Rd H a (.dK ks) ∧ SqT K H b vs ∧ Q (.bl false) H
theorem op_eqT (hu : X.A.units < cLine) : OpR X (compareOp .Eq) (rEqT X.K) := by
  intro pins s σ H x y v u Q I rx ry h
  obtain ⟨a, b, ks, vs, rfl, rfl, ea, eb, q⟩ := h
  obtain rfl : v = Value.ref a := rx
  obtain rfl : u = Value.ref b := ry
  obtain ⟨_, ya, va, ra, da⟩ := (show ObjOk X.prog X.w H s.heap a (.dK ks) from ea.ok I.hok)
  obtain ⟨its, o, n, hv, e, hc, hd⟩ := sqT_at I.hok I.kIn eb
  exact rc_dict_tuple (knd := mixKind X.prog X.w) da e hc hd hu (fin_bl I q rfl)
def rEqX (K : PySem.W.Frag) : R2 := fun x y H Q => rEqD K x y H Q ∨ rEqT K x y H Q
theorem op_eqX (hu : X.A.units + 64 < cLine) : OpR X (compareOp .Eq) (rEqX X.K) := by
  intro pins s σ H x y v u Q I rx ry h
  rcases h with h | h
  · exact op_eqD hu pins s σ H x y v u Q I rx ry h
  · exact op_eqT (by omega) pins s σ H x y v u Q I rx ry h
/-- == of data, or of a dict with a tuple -/
def eqX (x y : D) : Option D := match x, y with
  | .dic _, .tup _ => some (.bl false)
  | _, _ => eqD false x y
theorem rd_eqX [HW] {K : PySem.W.Frag} {mg : Str → Option Value} : R2D K mg (rEqX K) eqX := R2D.of fun x y z vx vy H W le hx hy hf Q q => by
  unfold eqX at hf
  split at hf
  · cases hf
    cases hx with
    | dic r _ =>
      cases hy with
      | tup sq _ =>
        rcases r with e | ⟨o, e⟩
        · exact .inr ⟨_, _, _, _, rfl, rfl, .inl (le _ _ e), (sf_le le sq).t, q _ (.bl _)⟩
        · exact .inr ⟨_, _, _, _, rfl, rfl, .inr ⟨o, le _ _ e⟩, (sf_le le sq).t, q _ (.bl _)⟩
  · simp only [eqD, Option.bind_eq_some_iff] at hf
    obtain ⟨a, ha, b, hb, hf⟩ := hf
    split at hf
    · rename_i h
      cases hf
      rw [Bool.false_xor] at q
      exact .inl ⟨a, b, toDp le hx ha, toDp le hy hb, h.1, h.2, q _ (.bl _)⟩
    · cases hf
end
end Fli
set_option Elab.async false
set_option linter.all false
set_option maxRecDepth 100000
set_option maxHeartbeats 8000000
namespace Fli
open PySem L2
def top (i : Nat) : Stmt := PySem.Challenge.pw_fliponce_k62_claims_by_hand_and_of_any_k.main.body.getD i (.Pass ⟨0, 0, 0, 0⟩)
section
variable [HW] {K : PySem.W.Frag} {mg : Str → Option Value} {base : Heap}
abbrev k_MOST_NAME : D := .int 8

abbrev k_MOST_SWITCHES : D := .int 10

abbrev k_MOST_RULES : D := .int 240

abbrev k_MOST_WISHED : D := .int 10

abbrev k_MOST_ROW : D := .int 1000

abbrev k_SIGNS : D := .tup ((["+", "-"] : List Str).map D.str)

abbrev k_LETTERS : D := .str ("abcdefghijklmnopqrstuvwxyz" : Str)

abbrev k_LITERAL_WORDS : D := .tup ((["either", "needs", "bars"] : List Str).map D.str)

abbrev k_NAME_WORDS : D := .tup ((["same", "unlike"] : List Str).map D.str)

abbrev k_WORDS : D := .tup ((["be", "either", "needs", "bars", "same", "unlike"] : List Str).map D.str)

abbrev k_HEAD : D := .str ("switches " : Str)

abbrev fs_CHECKS : List (Str × Str) := [("empty", "shows_empty"), ("fixed", "shows_fixed"), ("locked", "shows_locked"), ("implied", "shows_implied"), ("comes", "shows_comes"), ("apart", "shows_apart"), ("nearest", "shows_nearest")]

abbrev dd_Panel : List D := [.tup []]

abbrev s__law_jug : Stmt := top 74
abbrev N__law_jug : List Str := ["_law_script", "_law_k", "_law_cell", "_law_mixed", "_law_each"]
abbrev p__law_jug : List Str := ["_law_script", "_law_k"]
def m__law_jug : MS := (seqM (asgM (ifM (bindM (mBin (cmpD fun i j => decide (i < j)) (mVar 1) (bindM (bindM (mVar 0) fun d => bindM (retM []) fun ds => retM (d :: ds)) fun ds => optM (lenD ds))) fun d => optM (blD d)) (bindM (bindM (mBin atD (mVar 0) (mVar 1)) fun d => bindM (retM []) fun ds => retM (d :: ds)) fun ds => optM (intcD ds)) (mBin addL (mBin mulD (retM (.int 5503)) (mVar 1)) (retM (.int 61)))) (setF 2))
  (seqM (asgM (mBin addL (retM (.int 71011)) (mBin mulD (retM (.int 907)) (mVar 1))) (setF 3))
  (seqM (forL (mBin addL (slM slL (mVar 0) (retM none) (bindM (retM (.int 5)) fun d => optM ((intD d).map some))) (bindM (bindM (bindM (mVar 2) fun d => bindM (retM []) fun ds => retM (d :: ds)) fun ds => optM (lstM ds)) fun o => retM o.d)) (setF 4)
  (seqM (asgM (mBin modD (bindM (bindM (mBin addL (mBin mulD (mVar 3) (retM (.int 44017))) (bindM (bindM (mVar 4) fun d => bindM (retM []) fun ds => retM (d :: ds)) fun ds => optM (intcD ds))) fun d => bindM (retM []) fun ds => retM (d :: ds)) fun ds => optM (intcD ds)) (retM (.int 2147483179))) (setF 3))
  nxM))
  (seqM (retOS (bindM (bindM (ifM (orB (bindM (mBin (cmpD fun i j => decide (i < j)) (mVar 2) (retM (.int 0))) fun d => optM (blD d)) (bindM (mBin (cmpD fun i j => decide (j ≤ i)) (mVar 2) (mBin powD (retM (.int 10)) (retM (.int 18)))) fun d => optM (blD d))) (bindM (bindM (mVar 2) fun d => bindM (retM []) fun ds => retM (d :: ds)) fun ds => optM (absD ds)) (retM (.int 0))) fun d => bindM (bindM (mVar 3) fun d => bindM (bindM (retM (.int 0)) fun d => bindM (retM []) fun ds => retM (d :: ds)) fun ds => retM (d :: ds)) fun ds => retM (d :: ds)) fun ds => optM (lstM ds)))
  nxM))))
theorem sc__law_jug : FnScope N__law_jug p__law_jug (defScope s__law_jug) := ⟨rfl, rfl, rfl, by decide +kernel, rfl, by decide +kernel, by decide +kernel⟩
theorem x__law_jug {f : Addr} {fd : FuncData} (F : Fun K "_law_jug" "_law_jug" s__law_jug f fd) (T : TxtJ K mg)  : FnOk HW.P HW.w K mg base CX0 1 f fd p__law_jug (spM K mg N__law_jug p__law_jug [] m__law_jug) := by
  refine def_ok (k := 0) F sc__law_jug fun cdv A outer s H E hr => ?_
  have nd := sc__law_jug.nd
  exact (ss_cons (s_asg (e_if (b_cmp op_lt rd_cmp (e_var 1) (e_bi call_len cd_len rfl T.len (by decide +kernel) (la_cons (e_var 0) la_nil)) (nobehind _ (by decide) (by decide))) (e_ty call_int1 cd_int rfl T.int (by decide +kernel) (la_cons (e_ix (e_var 0) (e_var 1)) la_nil)) (e_op op_addL rd_addL (e_op op_mul rd_mul e_int (e_var 1)) e_int)) (pg_name (i := 2) nd rfl (by first | exact Or.inl rfl | exact Or.inr rfl)) (tg_name (by decide)))
  (ss_cons (s_asg (e_op op_addL rd_addL e_int (e_op op_mul rd_mul e_int (e_var 1))) (pg_name (i := 3) nd rfl (by first | exact Or.inl rfl | exact Or.inr rfl)) (tg_name (by decide)))
  (ss_cons (s_forL (e_op op_addL rd_addL (e_slA (e_var 0) ip_none (ip_some e_int)) (e_frz (o_lst (la_cons (e_var 2) la_nil)))) (pg_name (i := 4) nd rfl (by first | exact Or.inl rfl | exact Or.inr rfl)) (tg_name (by decide))
  (ss_cons (s_asg (e_op op_modN rd_mod (e_ty call_int1 cd_int rfl T.int (by decide +kernel) (la_cons (e_op op_addL rd_addL (e_op op_mul rd_mul (e_var 3) e_int) (e_ty call_int1 cd_int rfl T.int (by decide +kernel) (la_cons (e_var 4) la_nil))) la_nil)) e_int) (pg_name (i := 3) nd rfl (by first | exact Or.inl rfl | exact Or.inr rfl)) (tg_name (by decide)))
  ss_nil) rfl PassesOwn.never)
  (ss_cons (s_retO (o_lst (la_cons (e_if (b_w (bw_or (b_cmp op_lt rd_cmp (e_var 2) e_int (nobehind _ (by decide) (by decide))) (bw_o1 (b_cmp op_ge rd_cmp (e_var 2) (e_op op_pow rd_pow e_int e_int) (nobehind _ (by decide) (by decide)))))) (e_bi call_abs cd_abs rfl T.abs (by decide +kernel) (la_cons (e_var 2) la_nil)) e_int) (la_cons (e_var 3) (la_cons e_int la_nil)))))
  ss_nil))))

abbrev s__law_pour : Stmt := top 75
abbrev N__law_pour : List Str := ["_law_jug_here", "_law_many", "_law_old", "_law_digit"]
abbrev p__law_pour : List Str := ["_law_jug_here", "_law_many"]
def m__law_pour : MS := (seqM (putN 0 (retM (.int 2)) (mBin addL (ixN 0 (retM (.int 2))) (retM (.int 1))))
  (seqM (asgM (bindM (bindM (ixN 0 (retM (.int 1))) fun d => bindM (retM []) fun ds => retM (d :: ds)) fun ds => optM (intcD ds)) (setF 2))
  (seqM (putN 0 (retM (.int 1)) (mBin modD (bindM (bindM (mBin addL (mBin addL (mBin mulD (mVar 2) (mBin addL (mBin modD (bindM (bindM (mVar 2) fun d => bindM (retM []) fun ds => retM (d :: ds)) fun ds => optM (intcD ds)) (retM (.int 18013))) (retM (.int 26003)))) (mBin mulD (retM (.int 40013)) (ixN 0 (retM (.int 2))))) (retM (.int 23))) fun d => bindM (retM []) fun ds => retM (d :: ds)) fun ds => optM (intcD ds)) (retM (.int 2147483179))))
  (seqM (ifS (bindM (mBin (cmpD fun i j => decide (j < i)) (ixN 0 (retM (.int 0))) (retM (.int 0))) fun d => optM (blD d)) (seqM (dvmS 0 0 3 (bindM (ixN 0 (retM (.int 0))) fun d => bindM (bindM (mVar 1) fun d => bindM (retM []) fun ds => retM (d :: ds)) fun ds => retM (d :: ds)))
  (seqM (retMS (mVar 3))
  nxM)) nxM)
  (seqM (retMS (mBin modD (bindM (bindM (mBin divD (ixN 0 (retM (.int 1))) (retM (.int 103))) fun d => bindM (retM []) fun ds => retM (d :: ds)) fun ds => optM (intcD ds)) (mVar 1)))
  nxM)))))
theorem sc__law_pour : FnScope N__law_pour p__law_pour (defScope s__law_pour) := ⟨rfl, rfl, rfl, by decide +kernel, rfl, by decide +kernel, by decide +kernel⟩
theorem x__law_pour {f : Addr} {fd : FuncData} (F : Fun K "_law_pour" "_law_pour" s__law_pour f fd) (T : TxtJ K mg)  : FnOk HW.P HW.w K mg base CX0 1 f fd p__law_pour (spM K mg N__law_pour p__law_pour [0] m__law_pour) := by
  refine def_ok (k := 0) F sc__law_pour fun cdv A outer s H E hr => ?_
  have nd := sc__law_pour.nd
  exact (ss_cons (s_putN 0 (pv 0) e_int (e_op op_addL rd_addL (e_ixN 0 (pv 0) e_int) e_int))
  (ss_cons (s_asg (e_ty call_int1 cd_int rfl T.int (by decide +kernel) (la_cons (e_ixN 0 (pv 0) e_int) la_nil)) (pg_name (i := 2) nd rfl (by first | exact Or.inl rfl | exact Or.inr rfl)) (tg_name (by decide)))
  (ss_cons (s_putN 0 (pv 0) e_int (e_op op_modN rd_mod (e_ty call_int1 cd_int rfl T.int (by decide +kernel) (la_cons (e_op op_addL rd_addL (e_op op_addL rd_addL (e_op op_mul rd_mul (e_var 2) (e_op op_addL rd_addL (e_op op_modN rd_mod (e_ty call_int1 cd_int rfl T.int (by decide +kernel) (la_cons (e_var 2) la_nil)) e_int) e_int)) (e_op op_mul rd_mul e_int (e_ixN 0 (pv 0) e_int))) e_int) la_nil)) e_int))
  (ss_cons (s_if (b_cmp op_gt rd_cmp (e_ixN 0 (pv 0) e_int) e_int (nobehind _ (by decide) (by decide))) (ss_cons (s_dvm rfl nd (pv 0) e_int (pg_name (i := 3) nd rfl (by first | exact Or.inl rfl | exact Or.inr rfl)) (by decide) rfl T.divmod (la_cons (e_ixN 0 (pv 0) e_int) (la_cons (e_var 1) la_nil)))
  (ss_cons (s_ret (e_var 3))
  ss_nil)) ss_nil)
  (ss_cons (s_ret (e_op op_modN rd_mod (e_ty call_int1 cd_int rfl T.int (by decide +kernel) (la_cons (e_op op_fdivN rd_div (e_ixN 0 (pv 0) e_int) e_int) la_nil)) (e_var 1)))
  ss_nil)))))

abbrev s__law_of : Stmt := top 76
abbrev N__law_of : List Str := ["_law_jug_here", "_law_things"]
abbrev p__law_of : List Str := ["_law_jug_here", "_law_things"]
def m__law_of : MS := (seqM (retMS (mBin atD (mVar 1) (lendD 4 m__law_pour 0 (bindM (bindM (bindM (mVar 1) fun d => bindM (retM []) fun ds => retM (d :: ds)) fun ds => optM (lenD ds)) fun d => bindM (retM []) fun ds => retM (d :: ds)))))
  nxM)
theorem sc__law_of : FnScope N__law_of p__law_of (defScope s__law_of) := ⟨rfl, rfl, rfl, by decide +kernel, rfl, by decide +kernel, by decide +kernel⟩
theorem x__law_of {f : Addr} {fd : FuncData} (F : Fun K "_law_of" "_law_of" s__law_of f fd) (T : TxtJ K mg) (d__law_pour : DefX HW.P HW.w K mg base 1 "_law_pour" N__law_pour p__law_pour [0] m__law_pour) : FnOk HW.P HW.w K mg base CX0 2 f fd p__law_of (spM K mg N__law_of p__law_of [0] m__law_of) := by
  refine def_ok (k := 1) F sc__law_of fun cdv A outer s H E hr => ?_
  have nd := sc__law_of.nd
  exact (ss_cons (s_ret (e_ix (e_var 1) (e_lendX 0 d__law_pour (hr.mono (by decide)) rfl rfl (pv 0) (la_cons (e_bi call_len cd_len rfl T.len (by decide +kernel) (la_cons (e_var 1) la_nil)) la_nil) (len_cons len_nil) rfl)))
  ss_nil)

abbrev s__law_more : Stmt := top 78
abbrev N__law_more : List Str := ["_law_chain_page", "_law_ways_here", "_law_found"]
abbrev p__law_more : List Str := ["_law_chain_page"]
def m__law_more : MS := (seqM (asgM (bindM (bindM (bindM (bindM (bindM (bindM (retM (.int 1)) fun d => bindM (bindM (bindM (bindM (retM (.str ("b" : Str))) fun d => bindM (bindM (retM (.str ("-" : Str))) fun d => bindM (retM []) fun ds => retM (d :: ds)) fun ds => retM (d :: ds)) fun ds => optM (tupM ds)) fun d => bindM (retM []) fun ds => retM (d :: ds)) fun ds => retM (d :: ds)) fun ds => optM (tupM ds)) fun d => bindM (bindM (bindM (bindM (retM (.int 0)) fun d => bindM (bindM (bindM (bindM (retM (.str ("a" : Str))) fun d => bindM (bindM (retM (.str ("-" : Str))) fun d => bindM (retM []) fun ds => retM (d :: ds)) fun ds => retM (d :: ds)) fun ds => optM (tupM ds)) fun d => bindM (retM []) fun ds => retM (d :: ds)) fun ds => retM (d :: ds)) fun ds => optM (tupM ds)) fun d => bindM (retM []) fun ds => retM (d :: ds)) fun ds => retM (d :: ds)) fun ds => optM (tupM ds)) fun d => bindM (bindM (bindM (bindM (bindM (bindM (retM (.int 1)) fun d => bindM (bindM (bindM (bindM (retM (.str ("b" : Str))) fun d => bindM (bindM (retM (.str ("-" : Str))) fun d => bindM (retM []) fun ds => retM (d :: ds)) fun ds => retM (d :: ds)) fun ds => optM (tupM ds)) fun d => bindM (retM []) fun ds => retM (d :: ds)) fun ds => retM (d :: ds)) fun ds => optM (tupM ds)) fun d => bindM (retM []) fun ds => retM (d :: ds)) fun ds => optM (tupM ds)) fun d => bindM (bindM (bindM (retM []) fun ds => optM (tupM ds)) fun d => bindM (retM []) fun ds => retM (d :: ds)) fun ds => retM (d :: ds)) fun ds => retM (d :: ds)) fun ds => optM (tupM ds)) (setF 1))
  (seqM (asgO (bindM (bindM (bindM (bindM (bindM (bindM (retM (.str ("nearest" : Str))) fun d => bindM (bindM (mVar 0) fun d => bindM (bindM (retM (.str ("+++" : Str))) fun d => bindM (bindM (bindM (bindM (bindM (bindM (retM (.str ("c" : Str))) fun d => bindM (bindM (retM (.str ("-" : Str))) fun d => bindM (retM []) fun ds => retM (d :: ds)) fun ds => retM (d :: ds)) fun ds => optM (tupM ds)) fun d => bindM (retM []) fun ds => retM (d :: ds)) fun ds => optM (tupM ds)) fun d => bindM (bindM (retM (.str ("---" : Str))) fun d => bindM (retM []) fun ds => retM (d :: ds)) fun ds => retM (d :: ds)) fun ds => retM (d :: ds)) fun ds => retM (d :: ds)) fun ds => retM (d :: ds)) fun ds => optM (tupM ds)) fun d => bindM (bindM (bindM (bindM (bindM (bindM (retM (.str ("a" : Str))) fun d => bindM (bindM (retM (.str ("b" : Str))) fun d => bindM (bindM (retM (.str ("c" : Str))) fun d => bindM (retM []) fun ds => retM (d :: ds)) fun ds => retM (d :: ds)) fun ds => retM (d :: ds)) fun ds => optM (tupM ds)) fun d => bindM (bindM (mVar 1) fun d => bindM (retM []) fun ds => retM (d :: ds)) fun ds => retM (d :: ds)) fun ds => optM (tupM ds)) fun d => bindM (retM []) fun ds => retM (d :: ds)) fun ds => retM (d :: ds)) fun ds => optM (tupM ds)) fun d => bindM (retM []) fun ds => retM (d :: ds)) fun ds => optM (lstM ds)) 2)
  (seqM (appN 2 (bindM (bindM (bindM (bindM (retM (.str ("nearest" : Str))) fun d => bindM (bindM (mVar 0) fun d => bindM (bindM (retM (.str ("---" : Str))) fun d => bindM (bindM (bindM (bindM (bindM (bindM (retM (.str ("b" : Str))) fun d => bindM (bindM (retM (.str ("+" : Str))) fun d => bindM (retM []) fun ds => retM (d :: ds)) fun ds => retM (d :: ds)) fun ds => optM (tupM ds)) fun d => bindM (retM []) fun ds => retM (d :: ds)) fun ds => optM (tupM ds)) fun d => bindM (bindM (retM (.str ("-++" : Str))) fun d => bindM (retM []) fun ds => retM (d :: ds)) fun ds => retM (d :: ds)) fun ds => retM (d :: ds)) fun ds => retM (d :: ds)) fun ds => retM (d :: ds)) fun ds => optM (tupM ds)) fun d => bindM (bindM (bindM (bindM (bindM (bindM (retM (.str ("c" : Str))) fun d => bindM (bindM (retM (.str ("b" : Str))) fun d => bindM (retM []) fun ds => retM (d :: ds)) fun ds => retM (d :: ds)) fun ds => optM (tupM ds)) fun d => bindM (bindM (bindM (bindM (bindM (retM []) fun ds => optM (tupM ds)) fun d => bindM (bindM (bindM (bindM (bindM (bindM (retM (.int 1)) fun d => bindM (bindM (bindM (bindM (retM (.str ("c" : Str))) fun d => bindM (bindM (retM (.str ("+" : Str))) fun d => bindM (retM []) fun ds => retM (d :: ds)) fun ds => retM (d :: ds)) fun ds => optM (tupM ds)) fun d => bindM (retM []) fun ds => retM (d :: ds)) fun ds => retM (d :: ds)) fun ds => optM (tupM ds)) fun d => bindM (retM []) fun ds => retM (d :: ds)) fun ds => optM (tupM ds)) fun d => bindM (retM []) fun ds => retM (d :: ds)) fun ds => retM (d :: ds)) fun ds => optM (tupM ds)) fun d => bindM (retM []) fun ds => retM (d :: ds)) fun ds => retM (d :: ds)) fun ds => optM (tupM ds)) fun d => bindM (retM []) fun ds => retM (d :: ds)) fun ds => retM (d :: ds)) fun ds => optM (tupM ds)))
  (seqM (retMS (mBin addL (frzN 2) (bindM (bindM (bindM (bindM (bindM (bindM (bindM (retM (.str ("nearest" : Str))) fun d => bindM (bindM (mVar 0) fun d => bindM (bindM (retM (.str ("-++" : Str))) fun d => bindM (bindM (bindM (retM []) fun ds => optM (tupM ds)) fun d => bindM (bindM (retM (.str ("-++" : Str))) fun d => bindM (retM []) fun ds => retM (d :: ds)) fun ds => retM (d :: ds)) fun ds => retM (d :: ds)) fun ds => retM (d :: ds)) fun ds => retM (d :: ds)) fun ds => optM (tupM ds)) fun d => bindM (bindM (bindM (bindM (bindM (retM []) fun ds => optM (tupM ds)) fun d => bindM (bindM (bindM (retM []) fun ds => optM (tupM ds)) fun d => bindM (retM []) fun ds => retM (d :: ds)) fun ds => retM (d :: ds)) fun ds => optM (tupM ds)) fun d => bindM (retM []) fun ds => retM (d :: ds)) fun ds => retM (d :: ds)) fun ds => optM (tupM ds)) fun d => bindM (retM []) fun ds => retM (d :: ds)) fun ds => optM (lstM ds)) fun o => retM o.d)))
  nxM))))
theorem sc__law_more : FnScope N__law_more p__law_more (defScope s__law_more) := ⟨rfl, rfl, rfl, by decide +kernel, rfl, by decide +kernel, by decide +kernel⟩
theorem x__law_more {f : Addr} {fd : FuncData} (F : Fun K "_law_more" "_law_more" s__law_more f fd) (T : TxtJ K mg)  : FnOk HW.P HW.w K mg base CX0 1 f fd p__law_more (spM K mg N__law_more p__law_more [] m__law_more) := by
  refine def_ok (k := 0) F sc__law_more fun cdv A outer s H E hr => ?_
  have nd := sc__law_more.nd
  exact (ss_cons (s_asg (e_tup (la_cons (e_tup (la_cons (e_tup (la_cons e_int (la_cons (e_tup (la_cons e_str (la_cons e_str la_nil))) la_nil))) (la_cons (e_tup (la_cons e_int (la_cons (e_tup (la_cons e_str (la_cons e_str la_nil))) la_nil))) la_nil))) (la_cons (e_tup (la_cons (e_tup (la_cons e_int (la_cons (e_tup (la_cons e_str (la_cons e_str la_nil))) la_nil))) la_nil)) (la_cons (e_tup la_nil) la_nil)))) (pg_name (i := 1) nd rfl (by first | exact Or.inl rfl | exact Or.inr rfl)) (tg_name (by decide)))
  (ss_cons (s_asgO (o_lst (la_cons (e_tup (la_cons (e_tup (la_cons e_str (la_cons (e_var 0) (la_cons e_str (la_cons (e_tup (la_cons (e_tup (la_cons e_str (la_cons e_str la_nil))) la_nil)) (la_cons e_str la_nil)))))) (la_cons (e_tup (la_cons (e_tup (la_cons e_str (la_cons e_str (la_cons e_str la_nil)))) (la_cons (e_var 1) la_nil))) la_nil))) la_nil)) (pg_name (i := 2) nd rfl (by first | exact Or.inl rfl | exact Or.inr rfl)) (by decide))
  (ss_cons (s_appN 2 (pv 2) (e_tup (la_cons (e_tup (la_cons e_str (la_cons (e_var 0) (la_cons e_str (la_cons (e_tup (la_cons (e_tup (la_cons e_str (la_cons e_str la_nil))) la_nil)) (la_cons e_str la_nil)))))) (la_cons (e_tup (la_cons (e_tup (la_cons e_str (la_cons e_str la_nil))) (la_cons (e_tup (la_cons (e_tup la_nil) (la_cons (e_tup (la_cons (e_tup (la_cons e_int (la_cons (e_tup (la_cons e_str (la_cons e_str la_nil))) la_nil))) la_nil)) la_nil))) la_nil))) la_nil))))
  (ss_cons (s_ret (e_op op_addL rd_addL (e_frzN 2 (pv 2)) (e_frz (o_lst (la_cons (e_tup (la_cons (e_tup (la_cons e_str (la_cons (e_var 0) (la_cons e_str (la_cons (e_tup la_nil) (la_cons e_str la_nil)))))) (la_cons (e_tup (la_cons (e_tup la_nil) (la_cons (e_tup la_nil) la_nil))) la_nil))) la_nil)))))
  ss_nil))))

abbrev s__law_menu : Stmt := top 77
abbrev N__law_menu : List Str := ["_law_chain_page", "_law_tied_page", "_law_none_page", "_law_fast_page", "_law_on_b", "_law_on_a", "_law_to_a", "_law_found", "_law_on_c"]
abbrev p__law_menu : List Str := []
def m__law_menu : MS := (seqM (asgM (bindM (bindM (retM (.str ("switches a, b, c\nneeds +a +b\nneeds +b +c" : Str))) fun d => bindM (bindM (retM (.str ("switches a, b, c\nsame a b" : Str))) fun d => bindM (retM []) fun ds => retM (d :: ds)) fun ds => retM (d :: ds)) fun ds => optM (tupM ds)) (tupF 2 (consF (setF 0) (consF (setF 1) nilF))))
  (seqM (asgM (mBin addL (mVar 1) (retM (.str ("\neither +b +c" : Str)))) (setF 1))
  (seqM (asgM (bindM (bindM (retM (.str ("switches a\nbe +a\nbe -a" : Str))) fun d => bindM (bindM (retM (.str ("switches a, b\neither +a +b\nneeds +b +a" : Str))) fun d => bindM (retM []) fun ds => retM (d :: ds)) fun ds => retM (d :: ds)) fun ds => optM (tupM ds)) (tupF 2 (consF (setF 2) (consF (setF 3) nilF))))
  (seqM (asgM (bindM (bindM (bindM (bindM (retM (.str ("b" : Str))) fun d => bindM (bindM (retM (.str ("+" : Str))) fun d => bindM (retM []) fun ds => retM (d :: ds)) fun ds => retM (d :: ds)) fun ds => optM (tupM ds)) fun d => bindM (bindM (bindM (bindM (bindM (bindM (retM (.int 0)) fun d => bindM (bindM (bindM (bindM (retM (.str ("a" : Str))) fun d => bindM (bindM (retM (.str ("+" : Str))) fun d => bindM (retM []) fun ds => retM (d :: ds)) fun ds => retM (d :: ds)) fun ds => optM (tupM ds)) fun d => bindM (retM []) fun ds => retM (d :: ds)) fun ds => retM (d :: ds)) fun ds => optM (tupM ds)) fun d => bindM (retM []) fun ds => retM (d :: ds)) fun ds => optM (tupM ds)) fun d => bindM (bindM (bindM (bindM (bindM (bindM (retM (.int 0)) fun d => bindM (bindM (bindM (bindM (retM (.str ("b" : Str))) fun d => bindM (bindM (retM (.str ("+" : Str))) fun d => bindM (retM []) fun ds => retM (d :: ds)) fun ds => retM (d :: ds)) fun ds => optM (tupM ds)) fun d => bindM (retM []) fun ds => retM (d :: ds)) fun ds => retM (d :: ds)) fun ds => optM (tupM ds)) fun d => bindM (bindM (bindM (bindM (retM (.int 1)) fun d => bindM (bindM (bindM (bindM (retM (.str ("a" : Str))) fun d => bindM (bindM (retM (.str ("+" : Str))) fun d => bindM (retM []) fun ds => retM (d :: ds)) fun ds => retM (d :: ds)) fun ds => optM (tupM ds)) fun d => bindM (retM []) fun ds => retM (d :: ds)) fun ds => retM (d :: ds)) fun ds => optM (tupM ds)) fun d => bindM (retM []) fun ds => retM (d :: ds)) fun ds => retM (d :: ds)) fun ds => optM (tupM ds)) fun d => bindM (retM []) fun ds => retM (d :: ds)) fun ds => retM (d :: ds)) fun ds => retM (d :: ds)) fun ds => optM (tupM ds)) (tupF 3 (consF (setF 4) (consF (setF 5) (consF (setF 6) nilF)))))
  (seqM (asgO (bindM (bindM (bindM (bindM (bindM (bindM (retM (.str ("empty" : Str))) fun d => bindM (bindM (mVar 2) fun d => bindM (retM []) fun ds => retM (d :: ds)) fun ds => retM (d :: ds)) fun ds => optM (tupM ds)) fun d => bindM (bindM (bindM (bindM (bindM (bindM (retM (.str ("a" : Str))) fun d => bindM (bindM (retM (.str ("+" : Str))) fun d => bindM (retM []) fun ds => retM (d :: ds)) fun ds => retM (d :: ds)) fun ds => optM (tupM ds)) fun d => bindM (bindM (bindM (bindM (bindM (bindM (retM (.int 1)) fun d => bindM (bindM (bindM (bindM (retM (.str ("a" : Str))) fun d => bindM (bindM (retM (.str ("-" : Str))) fun d => bindM (retM []) fun ds => retM (d :: ds)) fun ds => retM (d :: ds)) fun ds => optM (tupM ds)) fun d => bindM (retM []) fun ds => retM (d :: ds)) fun ds => retM (d :: ds)) fun ds => optM (tupM ds)) fun d => bindM (retM []) fun ds => retM (d :: ds)) fun ds => optM (tupM ds)) fun d => bindM (bindM (mVar 5) fun d => bindM (retM []) fun ds => retM (d :: ds)) fun ds => retM (d :: ds)) fun ds => retM (d :: ds)) fun ds => optM (tupM ds)) fun d => bindM (retM []) fun ds => retM (d :: ds)) fun ds => retM (d :: ds)) fun ds => optM (tupM ds)) fun d => bindM (retM []) fun ds => retM (d :: ds)) fun ds => optM (lstM ds)) 7)
  (seqM (appN 7 (bindM (bindM (bindM (bindM (retM (.str ("fixed" : Str))) fun d => bindM (bindM (mVar 3) fun d => bindM (bindM (bindM (bindM (retM (.str ("a" : Str))) fun d => bindM (bindM (retM (.str ("+" : Str))) fun d => bindM (retM []) fun ds => retM (d :: ds)) fun ds => retM (d :: ds)) fun ds => optM (tupM ds)) fun d => bindM (retM []) fun ds => retM (d :: ds)) fun ds => retM (d :: ds)) fun ds => retM (d :: ds)) fun ds => optM (tupM ds)) fun d => bindM (bindM (bindM (bindM (retM (.str ("+-" : Str))) fun d => bindM (bindM (mVar 6) fun d => bindM (retM []) fun ds => retM (d :: ds)) fun ds => retM (d :: ds)) fun ds => optM (tupM ds)) fun d => bindM (retM []) fun ds => retM (d :: ds)) fun ds => retM (d :: ds)) fun ds => optM (tupM ds)))
  (seqM (appN 7 (bindM (bindM (bindM (bindM (retM (.str ("locked" : Str))) fun d => bindM (bindM (mVar 3) fun d => bindM (bindM (retM (.str ("a" : Str))) fun d => bindM (retM []) fun ds => retM (d :: ds)) fun ds => retM (d :: ds)) fun ds => retM (d :: ds)) fun ds => optM (tupM ds)) fun d => bindM (bindM (bindM (bindM (retM (.str ("++" : Str))) fun d => bindM (bindM (mVar 6) fun d => bindM (retM []) fun ds => retM (d :: ds)) fun ds => retM (d :: ds)) fun ds => optM (tupM ds)) fun d => bindM (retM []) fun ds => retM (d :: ds)) fun ds => retM (d :: ds)) fun ds => optM (tupM ds)))
  (seqM (appN 7 (bindM (bindM (bindM (bindM (retM (.str ("locked" : Str))) fun d => bindM (bindM (mVar 1) fun d => bindM (bindM (retM (.str ("a" : Str))) fun d => bindM (retM []) fun ds => retM (d :: ds)) fun ds => retM (d :: ds)) fun ds => retM (d :: ds)) fun ds => optM (tupM ds)) fun d => bindM (bindM (bindM (bindM (retM (.str ("--+" : Str))) fun d => bindM (bindM (bindM (bindM (mVar 4) fun d => bindM (bindM (bindM (bindM (bindM (bindM (retM (.int 0)) fun d => bindM (bindM (mVar 4) fun d => bindM (retM []) fun ds => retM (d :: ds)) fun ds => retM (d :: ds)) fun ds => optM (tupM ds)) fun d => bindM (retM []) fun ds => retM (d :: ds)) fun ds => optM (tupM ds)) fun d => bindM (bindM (mVar 5) fun d => bindM (retM []) fun ds => retM (d :: ds)) fun ds => retM (d :: ds)) fun ds => retM (d :: ds)) fun ds => optM (tupM ds)) fun d => bindM (retM []) fun ds => retM (d :: ds)) fun ds => retM (d :: ds)) fun ds => optM (tupM ds)) fun d => bindM (retM []) fun ds => retM (d :: ds)) fun ds => retM (d :: ds)) fun ds => optM (tupM ds)))
  (seqM (asgM (bindM (bindM (bindM (bindM (retM (.int 0)) fun d => bindM (bindM (mVar 4) fun d => bindM (retM []) fun ds => retM (d :: ds)) fun ds => retM (d :: ds)) fun ds => optM (tupM ds)) fun d => bindM (bindM (bindM (bindM (retM (.int 1)) fun d => bindM (bindM (bindM (bindM (retM (.str ("c" : Str))) fun d => bindM (bindM (retM (.str ("+" : Str))) fun d => bindM (retM []) fun ds => retM (d :: ds)) fun ds => retM (d :: ds)) fun ds => optM (tupM ds)) fun d => bindM (retM []) fun ds => retM (d :: ds)) fun ds => retM (d :: ds)) fun ds => optM (tupM ds)) fun d => bindM (retM []) fun ds => retM (d :: ds)) fun ds => retM (d :: ds)) fun ds => optM (tupM ds)) (setF 8))
  (seqM (appN 7 (bindM (bindM (bindM (bindM (retM (.str ("implied" : Str))) fun d => bindM (bindM (mVar 0) fun d => bindM (bindM (bindM (bindM (retM (.str ("needs" : Str))) fun d => bindM (bindM (bindM (bindM (retM (.str ("a" : Str))) fun d => bindM (bindM (retM (.str ("+" : Str))) fun d => bindM (retM []) fun ds => retM (d :: ds)) fun ds => retM (d :: ds)) fun ds => optM (tupM ds)) fun d => bindM (bindM (bindM (bindM (retM (.str ("c" : Str))) fun d => bindM (bindM (retM (.str ("+" : Str))) fun d => bindM (retM []) fun ds => retM (d :: ds)) fun ds => retM (d :: ds)) fun ds => optM (tupM ds)) fun d => bindM (retM []) fun ds => retM (d :: ds)) fun ds => retM (d :: ds)) fun ds => retM (d :: ds)) fun ds => optM (tupM ds)) fun d => bindM (retM []) fun ds => retM (d :: ds)) fun ds => retM (d :: ds)) fun ds => retM (d :: ds)) fun ds => optM (tupM ds)) fun d => bindM (bindM (bindM (bindM (retM (.str ("---" : Str))) fun d => bindM (bindM (bindM (bindM (mVar 8) fun d => bindM (retM []) fun ds => retM (d :: ds)) fun ds => optM (tupM ds)) fun d => bindM (retM []) fun ds => retM (d :: ds)) fun ds => retM (d :: ds)) fun ds => optM (tupM ds)) fun d => bindM (retM []) fun ds => retM (d :: ds)) fun ds => retM (d :: ds)) fun ds => optM (tupM ds)))
  (seqM (appN 7 (bindM (bindM (bindM (bindM (retM (.str ("implied" : Str))) fun d => bindM (bindM (mVar 1) fun d => bindM (bindM (bindM (bindM (retM (.str ("same" : Str))) fun d => bindM (bindM (retM (.str ("b" : Str))) fun d => bindM (bindM (retM (.str ("a" : Str))) fun d => bindM (retM []) fun ds => retM (d :: ds)) fun ds => retM (d :: ds)) fun ds => retM (d :: ds)) fun ds => optM (tupM ds)) fun d => bindM (retM []) fun ds => retM (d :: ds)) fun ds => retM (d :: ds)) fun ds => retM (d :: ds)) fun ds => optM (tupM ds)) fun d => bindM (bindM (bindM (bindM (retM (.str ("+++" : Str))) fun d => bindM (bindM (bindM (bindM (mVar 5) fun d => bindM (bindM (bindM (bindM (bindM (bindM (retM (.int 0)) fun d => bindM (bindM (bindM (bindM (retM (.str ("a" : Str))) fun d => bindM (bindM (retM (.str ("-" : Str))) fun d => bindM (retM []) fun ds => retM (d :: ds)) fun ds => retM (d :: ds)) fun ds => optM (tupM ds)) fun d => bindM (retM []) fun ds => retM (d :: ds)) fun ds => retM (d :: ds)) fun ds => optM (tupM ds)) fun d => bindM (retM []) fun ds => retM (d :: ds)) fun ds => optM (tupM ds)) fun d => bindM (retM []) fun ds => retM (d :: ds)) fun ds => retM (d :: ds)) fun ds => optM (tupM ds)) fun d => bindM (retM []) fun ds => retM (d :: ds)) fun ds => retM (d :: ds)) fun ds => optM (tupM ds)) fun d => bindM (retM []) fun ds => retM (d :: ds)) fun ds => retM (d :: ds)) fun ds => optM (tupM ds)))
  (seqM (appN 7 (bindM (bindM (bindM (bindM (retM (.str ("implied" : Str))) fun d => bindM (bindM (mVar 3) fun d => bindM (bindM (bindM (bindM (retM (.str ("be" : Str))) fun d => bindM (bindM (bindM (bindM (retM (.str ("a" : Str))) fun d => bindM (bindM (retM (.str ("+" : Str))) fun d => bindM (retM []) fun ds => retM (d :: ds)) fun ds => retM (d :: ds)) fun ds => optM (tupM ds)) fun d => bindM (retM []) fun ds => retM (d :: ds)) fun ds => retM (d :: ds)) fun ds => optM (tupM ds)) fun d => bindM (retM []) fun ds => retM (d :: ds)) fun ds => retM (d :: ds)) fun ds => retM (d :: ds)) fun ds => optM (tupM ds)) fun d => bindM (bindM (bindM (bindM (retM (.str ("++" : Str))) fun d => bindM (bindM (bindM (bindM (mVar 6) fun d => bindM (retM []) fun ds => retM (d :: ds)) fun ds => optM (tupM ds)) fun d => bindM (retM []) fun ds => retM (d :: ds)) fun ds => retM (d :: ds)) fun ds => optM (tupM ds)) fun d => bindM (retM []) fun ds => retM (d :: ds)) fun ds => retM (d :: ds)) fun ds => optM (tupM ds)))
  (seqM (appN 7 (bindM (bindM (bindM (bindM (retM (.str ("comes" : Str))) fun d => bindM (bindM (mVar 0) fun d => bindM (bindM (retM (.str ("---" : Str))) fun d => bindM (bindM (retM (.str ("+++" : Str))) fun d => bindM (retM []) fun ds => retM (d :: ds)) fun ds => retM (d :: ds)) fun ds => retM (d :: ds)) fun ds => retM (d :: ds)) fun ds => optM (tupM ds)) fun d => bindM (bindM (bindM (bindM (retM (.str ("c" : Str))) fun d => bindM (bindM (retM (.str ("b" : Str))) fun d => bindM (bindM (retM (.str ("a" : Str))) fun d => bindM (retM []) fun ds => retM (d :: ds)) fun ds => retM (d :: ds)) fun ds => retM (d :: ds)) fun ds => optM (tupM ds)) fun d => bindM (retM []) fun ds => retM (d :: ds)) fun ds => retM (d :: ds)) fun ds => optM (tupM ds)))
  (seqM (appN 7 (bindM (bindM (bindM (bindM (retM (.str ("apart" : Str))) fun d => bindM (bindM (mVar 1) fun d => bindM (bindM (retM (.str ("+++" : Str))) fun d => bindM (bindM (retM (.str ("--+" : Str))) fun d => bindM (retM []) fun ds => retM (d :: ds)) fun ds => retM (d :: ds)) fun ds => retM (d :: ds)) fun ds => retM (d :: ds)) fun ds => optM (tupM ds)) fun d => bindM (bindM (bindM (bindM (retM (.str ("b" : Str))) fun d => bindM (bindM (bindM (bindM (bindM (bindM (retM (.str ("a" : Str))) fun d => bindM (bindM (retM (.str ("+" : Str))) fun d => bindM (retM []) fun ds => retM (d :: ds)) fun ds => retM (d :: ds)) fun ds => optM (tupM ds)) fun d => bindM (bindM (mVar 5) fun d => bindM (bindM (bindM (bindM (bindM (bindM (retM (.int 0)) fun d => bindM (bindM (mVar 4) fun d => bindM (retM []) fun ds => retM (d :: ds)) fun ds => retM (d :: ds)) fun ds => optM (tupM ds)) fun d => bindM (retM []) fun ds => retM (d :: ds)) fun ds => optM (tupM ds)) fun d => bindM (retM []) fun ds => retM (d :: ds)) fun ds => retM (d :: ds)) fun ds => retM (d :: ds)) fun ds => optM (tupM ds)) fun d => bindM (retM []) fun ds => retM (d :: ds)) fun ds => retM (d :: ds)) fun ds => optM (tupM ds)) fun d => bindM (retM []) fun ds => retM (d :: ds)) fun ds => retM (d :: ds)) fun ds => optM (tupM ds)))
  (seqM (retMS (mBin addL (frzN 7) (callD 3 m__law_more (bindM (mVar 0) fun d => bindM (retM []) fun ds => retM (d :: ds)) [])))
  nxM)))))))))))))))
theorem sc__law_menu : FnScope N__law_menu p__law_menu (defScope s__law_menu) := ⟨rfl, rfl, rfl, by decide +kernel, rfl, by decide +kernel, by decide +kernel⟩
theorem x__law_menu {f : Addr} {fd : FuncData} (F : Fun K "_law_menu" "_law_menu" s__law_menu f fd) (T : TxtJ K mg) (d__law_more : DefX HW.P HW.w K mg base 1 "_law_more" N__law_more p__law_more [] m__law_more) : FnOk HW.P HW.w K mg base CX0 2 f fd p__law_menu (spM K mg N__law_menu p__law_menu [] m__law_menu) := by
  refine def_ok (k := 1) F sc__law_menu fun cdv A outer s H E hr => ?_
  have nd := sc__law_menu.nd
  exact (ss_cons (s_asg (e_tup (la_cons e_str (la_cons e_str la_nil))) (pg_tup rfl (pgs_cons (pg_name (i := 0) nd rfl (by first | exact Or.inl rfl | exact Or.inr rfl)) (pgs_cons (pg_name (i := 1) nd rfl (by first | exact Or.inl rfl | exact Or.inr rfl)) pgs_nil))) (tg_tup (tg_cons (tg_name (by decide)) (tg_cons (tg_name (by decide)) tg_nil))))
  (ss_cons (s_asg (e_op op_addL rd_addL (e_var 1) e_str) (pg_name (i := 1) nd rfl (by first | exact Or.inl rfl | exact Or.inr rfl)) (tg_name (by decide)))
  (ss_cons (s_asg (e_tup (la_cons e_str (la_cons e_str la_nil))) (pg_tup rfl (pgs_cons (pg_name (i := 2) nd rfl (by first | exact Or.inl rfl | exact Or.inr rfl)) (pgs_cons (pg_name (i := 3) nd rfl (by first | exact Or.inl rfl | exact Or.inr rfl)) pgs_nil))) (tg_tup (tg_cons (tg_name (by decide)) (tg_cons (tg_name (by decide)) tg_nil))))
  (ss_cons (s_asg (e_tup (la_cons (e_tup (la_cons e_str (la_cons e_str la_nil))) (la_cons (e_tup (la_cons (e_tup (la_cons e_int (la_cons (e_tup (la_cons e_str (la_cons e_str la_nil))) la_nil))) la_nil)) (la_cons (e_tup (la_cons (e_tup (la_cons e_int (la_cons (e_tup (la_cons e_str (la_cons e_str la_nil))) la_nil))) (la_cons (e_tup (la_cons e_int (la_cons (e_tup (la_cons e_str (la_cons e_str la_nil))) la_nil))) la_nil))) la_nil)))) (pg_tup rfl (pgs_cons (pg_name (i := 4) nd rfl (by first | exact Or.inl rfl | exact Or.inr rfl)) (pgs_cons (pg_name (i := 5) nd rfl (by first | exact Or.inl rfl | exact Or.inr rfl)) (pgs_cons (pg_name (i := 6) nd rfl (by first | exact Or.inl rfl | exact Or.inr rfl)) pgs_nil)))) (tg_tup (tg_cons (tg_name (by decide)) (tg_cons (tg_name (by decide)) (tg_cons (tg_name (by decide)) tg_nil)))))
  (ss_cons (s_asgO (o_lst (la_cons (e_tup (la_cons (e_tup (la_cons e_str (la_cons (e_var 2) la_nil))) (la_cons (e_tup (la_cons (e_tup (la_cons e_str (la_cons e_str la_nil))) (la_cons (e_tup (la_cons (e_tup (la_cons e_int (la_cons (e_tup (la_cons e_str (la_cons e_str la_nil))) la_nil))) la_nil)) (la_cons (e_var 5) la_nil)))) la_nil))) la_nil)) (pg_name (i := 7) nd rfl (by first | exact Or.inl rfl | exact Or.inr rfl)) (by decide))
  (ss_cons (s_appN 7 (pv 7) (e_tup (la_cons (e_tup (la_cons e_str (la_cons (e_var 3) (la_cons (e_tup (la_cons e_str (la_cons e_str la_nil))) la_nil)))) (la_cons (e_tup (la_cons e_str (la_cons (e_var 6) la_nil))) la_nil))))
  (ss_cons (s_appN 7 (pv 7) (e_tup (la_cons (e_tup (la_cons e_str (la_cons (e_var 3) (la_cons e_str la_nil)))) (la_cons (e_tup (la_cons e_str (la_cons (e_var 6) la_nil))) la_nil))))
  (ss_cons (s_appN 7 (pv 7) (e_tup (la_cons (e_tup (la_cons e_str (la_cons (e_var 1) (la_cons e_str la_nil)))) (la_cons (e_tup (la_cons e_str (la_cons (e_tup (la_cons (e_var 4) (la_cons (e_tup (la_cons (e_tup (la_cons e_int (la_cons (e_var 4) la_nil))) la_nil)) (la_cons (e_var 5) la_nil)))) la_nil))) la_nil))))
  (ss_cons (s_asg (e_tup (la_cons (e_tup (la_cons e_int (la_cons (e_var 4) la_nil))) (la_cons (e_tup (la_cons e_int (la_cons (e_tup (la_cons e_str (la_cons e_str la_nil))) la_nil))) la_nil))) (pg_name (i := 8) nd rfl (by first | exact Or.inl rfl | exact Or.inr rfl)) (tg_name (by decide)))
  (ss_cons (s_appN 7 (pv 7) (e_tup (la_cons (e_tup (la_cons e_str (la_cons (e_var 0) (la_cons (e_tup (la_cons e_str (la_cons (e_tup (la_cons e_str (la_cons e_str la_nil))) (la_cons (e_tup (la_cons e_str (la_cons e_str la_nil))) la_nil)))) la_nil)))) (la_cons (e_tup (la_cons e_str (la_cons (e_tup (la_cons (e_var 8) la_nil)) la_nil))) la_nil))))
  (ss_cons (s_appN 7 (pv 7) (e_tup (la_cons (e_tup (la_cons e_str (la_cons (e_var 1) (la_cons (e_tup (la_cons e_str (la_cons e_str (la_cons e_str la_nil)))) la_nil)))) (la_cons (e_tup (la_cons e_str (la_cons (e_tup (la_cons (e_var 5) (la_cons (e_tup (la_cons (e_tup (la_cons e_int (la_cons (e_tup (la_cons e_str (la_cons e_str la_nil))) la_nil))) la_nil)) la_nil))) la_nil))) la_nil))))
  (ss_cons (s_appN 7 (pv 7) (e_tup (la_cons (e_tup (la_cons e_str (la_cons (e_var 3) (la_cons (e_tup (la_cons e_str (la_cons (e_tup (la_cons e_str (la_cons e_str la_nil))) la_nil))) la_nil)))) (la_cons (e_tup (la_cons e_str (la_cons (e_tup (la_cons (e_var 6) la_nil)) la_nil))) la_nil))))
  (ss_cons (s_appN 7 (pv 7) (e_tup (la_cons (e_tup (la_cons e_str (la_cons (e_var 0) (la_cons e_str (la_cons e_str la_nil))))) (la_cons (e_tup (la_cons e_str (la_cons e_str (la_cons e_str la_nil)))) la_nil))))
  (ss_cons (s_appN 7 (pv 7) (e_tup (la_cons (e_tup (la_cons e_str (la_cons (e_var 1) (la_cons e_str (la_cons e_str la_nil))))) (la_cons (e_tup (la_cons e_str (la_cons (e_tup (la_cons (e_tup (la_cons e_str (la_cons e_str la_nil))) (la_cons (e_var 5) (la_cons (e_tup (la_cons (e_tup (la_cons e_int (la_cons (e_var 4) la_nil))) la_nil)) la_nil)))) la_nil))) la_nil))))
  (ss_cons (s_ret (e_op op_addL rd_addL (e_frzN 7 (pv 7)) (e_callX d__law_more (hr.mono (by decide)) rfl rfl (la_cons (e_var 0) la_nil) (len_cons len_nil) rfl)))
  ss_nil)))))))))))))))

abbrev s__law_bent_claim : Stmt := top 79
abbrev N__law_bent_claim : List Str := ["_law_jug_here", "_law_said", "_law_paper", "_law_at", "_law_way_here", "_law_odd", "_law_words", "_law_each"]
abbrev p__law_bent_claim : List Str := ["_law_jug_here", "_law_said", "_law_paper"]
def m__law_bent_claim : MS := (seqM (parM 3 4 (bindM (lendD 4 m__law_pour 0 (bindM (bindM (bindM (mVar 1) fun d => bindM (retM []) fun ds => retM (d :: ds)) fun ds => optM (lenD ds)) fun d => bindM (retM []) fun ds => retM (d :: ds))) fun d => bindM (bindM (lendD 4 m__law_pour 0 (bindM (retM (.int 9)) fun d => bindM (retM []) fun ds => retM (d :: ds))) fun d => bindM (retM []) fun ds => retM (d :: ds)) fun ds => retM (d :: ds)))
  (seqM (ifS (bindM (mBin (eqD false) (mVar 4) (retM (.int 0))) fun d => optM (blD d)) (seqM (retMS (bindM (bindM (bindM (bindM (bindM (mVar 1) fun d => bindM (retM []) fun ds => retM (d :: ds)) fun ds => optM (lstcD ds)) fun o => retM o.d) fun d => bindM (bindM (mVar 2) fun d => bindM (retM []) fun ds => retM (d :: ds)) fun ds => retM (d :: ds)) fun ds => optM (tupM ds)))
  nxM) nxM)
  (seqM (ifS (bindM (mBin (eqD false) (mVar 4) (retM (.int 1))) fun d => optM (blD d)) (seqM (retMS (bindM (bindM (mBin addL (mVar 1) (bindM (bindM (lendD 2 m__law_of 0 (bindM (bindM (bindM (bindM (retM (.int 0)) fun d => bindM (bindM (retM .non) fun d => bindM (bindM (retM (.str ("" : Str))) fun d => bindM (bindM (mBin atD (mVar 1) (bindM (retM (.int 1)) fun d => optM (negD d))) fun d => bindM (retM []) fun ds => retM (d :: ds)) fun ds => retM (d :: ds)) fun ds => retM (d :: ds)) fun ds => retM (d :: ds)) fun ds => optM (lstM ds)) fun o => retM o.d) fun d => bindM (retM []) fun ds => retM (d :: ds))) fun d => bindM (retM []) fun ds => retM (d :: ds)) fun ds => optM (tupM ds))) fun d => bindM (bindM (mVar 2) fun d => bindM (retM []) fun ds => retM (d :: ds)) fun ds => retM (d :: ds)) fun ds => optM (tupM ds)))
  nxM) nxM)
  (seqM (ifS (bindM (mBin (eqD false) (mVar 4) (retM (.int 2))) fun d => optM (blD d)) (seqM (retMS (bindM (bindM (mBin addL (slM slL (mVar 1) (retM none) (bindM (mVar 3) fun d => optM ((intD d).map some))) (slM slL (mVar 1) (bindM (mBin addL (mVar 3) (retM (.int 1))) fun d => optM ((intD d).map some)) (retM none))) fun d => bindM (bindM (mVar 2) fun d => bindM (retM []) fun ds => retM (d :: ds)) fun ds => retM (d :: ds)) fun ds => optM (tupM ds)))
  nxM) nxM)
  (seqM (ifS (bindM (mBin (eqD false) (mVar 4) (retM (.int 3))) fun d => optM (blD d)) (seqM (retMS (bindM (bindM (bindM (mVar 1) fun d => bindM (bindM (bindM (retM (.int 1)) fun d => optM (negD d)) fun d => optM ((intD d).map some)) fun o => optM (revT o d)) fun d => bindM (bindM (mVar 2) fun d => bindM (retM []) fun ds => retM (d :: ds)) fun ds => retM (d :: ds)) fun ds => optM (tupM ds)))
  nxM) nxM)
  (seqM (ifS (bindM (mBin (eqD false) (mVar 4) (retM (.int 4))) fun d => optM (blD d)) (seqM (retMS (bindM (bindM (mBin addL (mBin addL (slM slL (mVar 1) (retM none) (bindM (mVar 3) fun d => optM ((intD d).map some))) (bindM (bindM (bindM (bindM (mBin atD (mVar 1) (mVar 3)) fun d => bindM (retM []) fun ds => retM (d :: ds)) fun ds => optM (tupM ds)) fun d => bindM (retM []) fun ds => retM (d :: ds)) fun ds => optM (tupM ds))) (slM slL (mVar 1) (bindM (mBin addL (mVar 3) (retM (.int 1))) fun d => optM ((intD d).map some)) (retM none))) fun d => bindM (bindM (mVar 2) fun d => bindM (retM []) fun ds => retM (d :: ds)) fun ds => retM (d :: ds)) fun ds => optM (tupM ds)))
  nxM) nxM)
  (seqM (ifS (bindM (mBin (eqD false) (mVar 4) (retM (.int 5))) fun d => optM (blD d)) (seqM (asgM (lendD 2 m__law_of 0 (bindM (bindM (bindM (bindM (retM .non) fun d => bindM (bindM (retM (.int 0)) fun d => bindM (bindM (retM (.bl true)) fun d => bindM (bindM (bindM (fun s => some (O.dic [], s)) fun o => retM o.d) fun d => bindM (bindM (retM (.str ("" : Str))) fun d => bindM (bindM (bindM (bindM (retM []) fun ds => optM (lstM ds)) fun o => retM o.d) fun d => bindM (bindM (bindM (bindM (retM (.str ("zz" : Str))) fun d => bindM (retM []) fun ds => retM (d :: ds)) fun ds => optM (tupM ds)) fun d => bindM (bindM (retM (.str ("zz" : Str))) fun d => bindM (retM []) fun ds => retM (d :: ds)) fun ds => retM (d :: ds)) fun ds => retM (d :: ds)) fun ds => retM (d :: ds)) fun ds => retM (d :: ds)) fun ds => retM (d :: ds)) fun ds => retM (d :: ds)) fun ds => retM (d :: ds)) fun ds => optM (lstM ds)) fun o => retM o.d) fun d => bindM (retM []) fun ds => retM (d :: ds))) (setF 5))
  (seqM (retMS (bindM (bindM (mBin addL (mBin addL (slM slL (mVar 1) (retM none) (bindM (mVar 3) fun d => optM ((intD d).map some))) (bindM (bindM (mVar 5) fun d => bindM (retM []) fun ds => retM (d :: ds)) fun ds => optM (tupM ds))) (slM slL (mVar 1) (bindM (mBin addL (mVar 3) (retM (.int 1))) fun d => optM ((intD d).map some)) (retM none))) fun d => bindM (bindM (mVar 2) fun d => bindM (retM []) fun ds => retM (d :: ds)) fun ds => retM (d :: ds)) fun ds => optM (tupM ds)))
  nxM)) nxM)
  (seqM (ifS (bindM (mBin (eqD false) (mVar 4) (retM (.int 6))) fun d => optM (blD d)) (seqM (asgO (bindM (bindM (retM (.str ("empty" : Str))) fun d => bindM (bindM (retM (.str ("fixed" : Str))) fun d => bindM (bindM (retM (.str ("locked" : Str))) fun d => bindM (bindM (retM (.str ("implied" : Str))) fun d => bindM (bindM (retM (.str ("comes" : Str))) fun d => bindM (bindM (retM (.str ("apart" : Str))) fun d => bindM (bindM (retM (.str ("nearest" : Str))) fun d => bindM (retM []) fun ds => retM (d :: ds)) fun ds => retM (d :: ds)) fun ds => retM (d :: ds)) fun ds => retM (d :: ds)) fun ds => retM (d :: ds)) fun ds => retM (d :: ds)) fun ds => retM (d :: ds)) fun ds => optM (lstM ds)) 6)
  (seqM (retMS (bindM (bindM (mBin addL (bindM (bindM (lendD 2 m__law_of 0 (bindM (bindM (cplL (frzN 6) [7] (setF 7) (bindM (mBin (eqD true) (mVar 7) (mBin atD (mVar 1) (retM (.int 0)))) fun d => optM (blD d)) (mVar 7)) fun o => retM o.d) fun d => bindM (retM []) fun ds => retM (d :: ds))) fun d => bindM (retM []) fun ds => retM (d :: ds)) fun ds => optM (tupM ds)) (slM slL (mVar 1) (bindM (retM (.int 1)) fun d => optM ((intD d).map some)) (retM none))) fun d => bindM (bindM (mVar 2) fun d => bindM (retM []) fun ds => retM (d :: ds)) fun ds => retM (d :: ds)) fun ds => optM (tupM ds)))
  nxM)) nxM)
  (seqM (retMS (bindM (bindM (mVar 1) fun d => bindM (bindM (lendD 2 m__law_of 0 (bindM (bindM (bindM (bindM (retM (.int 0)) fun d => bindM (bindM (retM (.bl false)) fun d => bindM (bindM (bindM (bindM (retM []) fun ds => optM (lstM ds)) fun o => retM o.d) fun d => bindM (bindM (bindM (bindM (mVar 2) fun d => bindM (retM []) fun ds => retM (d :: ds)) fun ds => optM (tupM ds)) fun d => bindM (bindM (bindM (fun s => some (O.dic [], s)) fun o => retM o.d) fun d => bindM (bindM (retM (.str ("" : Str))) fun d => bindM (bindM (bindM (bindM (bindM (mVar 2) fun d => bindM (retM []) fun ds => retM (d :: ds)) fun ds => optM (lstM ds)) fun o => retM o.d) fun d => bindM (bindM (retM (.str ("zz" : Str))) fun d => bindM (bindM (bindM (bindM (retM (.str ("zz" : Str))) fun d => bindM (retM []) fun ds => retM (d :: ds)) fun ds => optM (tupM ds)) fun d => bindM (bindM (bindM (bindM (retM .non) fun d => bindM (bindM (retM .non) fun d => bindM (retM []) fun ds => retM (d :: ds)) fun ds => retM (d :: ds)) fun ds => optM (tupM ds)) fun d => bindM (bindM (bindM (bindM (bindM (mVar 2) fun d => bindM (retM []) fun ds => retM (d :: ds)) fun ds => optM (lstcD ds)) fun o => retM o.d) fun d => bindM (retM []) fun ds => retM (d :: ds)) fun ds => retM (d :: ds)) fun ds => retM (d :: ds)) fun ds => retM (d :: ds)) fun ds => retM (d :: ds)) fun ds => retM (d :: ds)) fun ds => retM (d :: ds)) fun ds => retM (d :: ds)) fun ds => retM (d :: ds)) fun ds => retM (d :: ds)) fun ds => retM (d :: ds)) fun ds => optM (lstM ds)) fun o => retM o.d) fun d => bindM (retM []) fun ds => retM (d :: ds))) fun d => bindM (retM []) fun ds => retM (d :: ds)) fun ds => retM (d :: ds)) fun ds => optM (tupM ds)))
  nxM)))))))))
theorem sc__law_bent_claim : FnScope N__law_bent_claim p__law_bent_claim (defScope s__law_bent_claim) := ⟨rfl, rfl, rfl, by decide +kernel, rfl, by decide +kernel, by decide +kernel⟩
theorem x__law_bent_claim {f : Addr} {fd : FuncData} (F : Fun K "_law_bent_claim" "_law_bent_claim" s__law_bent_claim f fd) (T : TxtJ K mg) (d__law_pour : DefX HW.P HW.w K mg base 1 "_law_pour" N__law_pour p__law_pour [0] m__law_pour) (d__law_of : DefX HW.P HW.w K mg base 2 "_law_of" N__law_of p__law_of [0] m__law_of) : FnOk HW.P HW.w K mg base CX0 3 f fd p__law_bent_claim (spM K mg N__law_bent_claim p__law_bent_claim [0] m__law_bent_claim) := by
  refine def_ok (k := 2) F sc__law_bent_claim fun cdv A outer s H E hr => ?_
  have nd := sc__law_bent_claim.nd
  exact (ss_cons (s_par (i := 3) (j := 4) rfl rfl (by decide) rfl rfl (la_cons (e_lendX 0 d__law_pour (hr.mono (by decide)) rfl rfl (pv 0) (la_cons (e_bi call_len cd_len rfl T.len (by decide +kernel) (la_cons (e_var 1) la_nil)) la_nil) (len_cons len_nil) rfl) (la_cons (e_lendX 0 d__law_pour (hr.mono (by decide)) rfl rfl (pv 0) (la_cons e_int la_nil) (len_cons len_nil) rfl) la_nil)) (by decide) (by decide) rfl nd)
  (ss_cons (s_if (b_cmp (op_eqD hr.units) rd_eq (e_var 4) e_int (nobehind _ (by decide) (by decide))) (ss_cons (s_ret (e_tup (la_cons (e_frz (o_ty call_list_of co_list rfl T.list (by decide +kernel) (la_cons (e_var 1) la_nil))) (la_cons (e_var 2) la_nil))))
  ss_nil) ss_nil)
  (ss_cons (s_if (b_cmp (op_eqD hr.units) rd_eq (e_var 4) e_int (nobehind _ (by decide) (by decide))) (ss_cons (s_ret (e_tup (la_cons (e_op op_addL rd_addL (e_var 1) (e_tup (la_cons (e_lendX 0 d__law_of (hr.mono (by decide)) rfl rfl (pv 0) (la_cons (e_frz (o_lst (la_cons e_int (la_cons e_non (la_cons e_str (la_cons (e_ix (e_var 1) (e_neg e_int)) la_nil)))))) la_nil) (len_cons len_nil) rfl) la_nil))) (la_cons (e_var 2) la_nil))))
  ss_nil) ss_nil)
  (ss_cons (s_if (b_cmp (op_eqD hr.units) rd_eq (e_var 4) e_int (nobehind _ (by decide) (by decide))) (ss_cons (s_ret (e_tup (la_cons (e_op op_addL rd_addL (e_slA (e_var 1) ip_none (ip_some (e_var 3))) (e_slA (e_var 1) (ip_some (e_op op_addL rd_addL (e_var 3) e_int)) ip_none)) (la_cons (e_var 2) la_nil))))
  ss_nil) ss_nil)
  (ss_cons (s_if (b_cmp (op_eqD hr.units) rd_eq (e_var 4) e_int (nobehind _ (by decide) (by decide))) (ss_cons (s_ret (e_tup (la_cons (e_revT (e_var 1) (ip_some (e_neg e_int))) (la_cons (e_var 2) la_nil))))
  ss_nil) ss_nil)
  (ss_cons (s_if (b_cmp (op_eqD hr.units) rd_eq (e_var 4) e_int (nobehind _ (by decide) (by decide))) (ss_cons (s_ret (e_tup (la_cons (e_op op_addL rd_addL (e_op op_addL rd_addL (e_slA (e_var 1) ip_none (ip_some (e_var 3))) (e_tup (la_cons (e_tup (la_cons (e_ix (e_var 1) (e_var 3)) la_nil)) la_nil))) (e_slA (e_var 1) (ip_some (e_op op_addL rd_addL (e_var 3) e_int)) ip_none)) (la_cons (e_var 2) la_nil))))
  ss_nil) ss_nil)
  (ss_cons (s_if (b_cmp (op_eqD hr.units) rd_eq (e_var 4) e_int (nobehind _ (by decide) (by decide))) (ss_cons (s_asg (e_lendX 0 d__law_of (hr.mono (by decide)) rfl rfl (pv 0) (la_cons (e_frz (o_lst (la_cons e_non (la_cons e_int (la_cons e_bl (la_cons (e_frz o_knew) (la_cons e_str (la_cons (e_frz (o_lst la_nil)) (la_cons (e_tup (la_cons e_str la_nil)) (la_cons e_str la_nil)))))))))) la_nil) (len_cons len_nil) rfl) (pg_name (i := 5) nd rfl (by first | exact Or.inl rfl | exact Or.inr rfl)) (tg_name (by decide)))
  (ss_cons (s_ret (e_tup (la_cons (e_op op_addL rd_addL (e_op op_addL rd_addL (e_slA (e_var 1) ip_none (ip_some (e_var 3))) (e_tup (la_cons (e_var 5) la_nil))) (e_slA (e_var 1) (ip_some (e_op op_addL rd_addL (e_var 3) e_int)) ip_none)) (la_cons (e_var 2) la_nil))))
  ss_nil)) ss_nil)
  (ss_cons (s_if (b_cmp (op_eqD hr.units) rd_eq (e_var 4) e_int (nobehind _ (by decide) (by decide))) (ss_cons (s_asgO (o_lst (la_cons e_str (la_cons e_str (la_cons e_str (la_cons e_str (la_cons e_str (la_cons e_str (la_cons e_str la_nil)))))))) (pg_name (i := 6) nd rfl (by first | exact Or.inl rfl | exact Or.inr rfl)) (by decide))
  (ss_cons (s_ret (e_tup (la_cons (e_op op_addL rd_addL (e_tup (la_cons (e_lendX 0 d__law_of (hr.mono (by decide)) rfl rfl (pv 0) (la_cons (e_frz (o_lcL (own := [("_law_each", 7)]) (vs := [7]) rfl rfl nd (e_frzN 6 (pv 6)) (blkOk_by (N := N__law_bent_claim) (sc := defScope s__law_bent_claim) (by decide +kernel)) (fun _ _ _ _ _ => (pg_name (i := 7) nd rfl (by first | exact Or.inl rfl | exact Or.inr rfl))) (tg_name (by decide)) (tw_name (by decide)) (fun _ _ _ _ _ => pts_1 (b_cmp (op_neD hr.units) rd_ne (e_var 7) (e_ix (e_var 1) e_int) (nobehind _ (by decide) (by decide)))) (fun _ _ _ _ _ => (e_var 7)))) la_nil) (len_cons len_nil) rfl) la_nil)) (e_slA (e_var 1) (ip_some e_int) ip_none)) (la_cons (e_var 2) la_nil))))
  ss_nil)) ss_nil)
  (ss_cons (s_ret (e_tup (la_cons (e_var 1) (la_cons (e_lendX 0 d__law_of (hr.mono (by decide)) rfl rfl (pv 0) (la_cons (e_frz (o_lst (la_cons e_int (la_cons e_bl (la_cons (e_frz (o_lst la_nil)) (la_cons (e_tup (la_cons (e_var 2) la_nil)) (la_cons (e_frz o_knew) (la_cons e_str (la_cons (e_frz (o_lst (la_cons (e_var 2) la_nil))) (la_cons e_str (la_cons (e_tup (la_cons e_str la_nil)) (la_cons (e_tup (la_cons e_non (la_cons e_non la_nil))) (la_cons (e_frz (o_ty call_list_of co_list rfl T.list (by decide +kernel) (la_cons (e_var 2) la_nil))) la_nil))))))))))))) la_nil) (len_cons len_nil) rfl) la_nil))))
  ss_nil)))))))))

abbrev s_is_number : Stmt := top 18
abbrev N_is_number : List Str := ["value"]
abbrev p_is_number : List Str := ["value"]
def m_is_number : MS := (seqM (retMS (andV (bindM (mVar 0) fun d => optM (isB "int" d)) (andV (bindM (bindM (mVar 0) fun d => optM (isB "bool" d)) fun d => optM (notD d)) (mBin (cmpD fun i j => decide (j ≤ i)) (mVar 0) (retM (.int 0))))))
  nxM)
theorem sc_is_number : FnScope N_is_number p_is_number (defScope s_is_number) := ⟨rfl, rfl, rfl, by decide +kernel, rfl, by decide +kernel, by decide +kernel⟩
theorem x_is_number {f : Addr} {fd : FuncData} (F : Fun K "is_number" "is_number" s_is_number f fd) (T : TxtJ K mg)  : FnOk HW.P HW.w K mg base CX0 1 f fd p_is_number (spM K mg N_is_number p_is_number [] m_is_number) := by
  refine def_ok (k := 0) F sc_is_number fun cdv A outer s H E hr => ?_
  have nd := sc_is_number.nd
  exact (ss_cons (s_ret (e_and (e_isB (e_var 0) rfl T.isinstance (pe_bltn rfl T.int (by decide +kernel) rfl)) (e_and (e_not (e_isB (e_var 0) rfl T.isinstance (pe_bltn rfl T.bool (by decide +kernel) rfl))) (e_1 (e_cmp op_ge rd_cmp (e_var 0) e_int (nobehind _ (by decide) (by decide)))))))
  ss_nil)

end
end Fli
set_option Elab.async false
set_option linter.all false
set_option maxRecDepth 100000
set_option maxHeartbeats 8000000
namespace Fli
open PySem L2
section
variable [HW] {K : PySem.W.Frag} {mg : Str → Option Value} {base : Heap}
abbrev s_is_name : Stmt := top 19
abbrev N_is_name : List Str := ["value", "letter"]
abbrev p_is_name : List Str := ["value"]
def m_is_name : MS := (seqM (ifS (orB (bindM (bindM (bindM (mVar 0) fun d => optM (isB "str" d)) fun d => optM (truD d)) fun k => retM !k) (bindM (mBin (inD false) (mVar 0) (retM k_WORDS)) fun d => optM (blD d))) (seqM (retMS (retM (.bl false)))
  nxM) nxM)
  (seqM (retMS (andV (chM (cmpD fun i j => decide (i ≤ j)) (cmpD fun i j => decide (i ≤ j)) (retM (.int 1)) (bindM (bindM (mVar 0) fun d => bindM (retM []) fun ds => retM (d :: ds)) fun ds => optM (lenD ds)) (retM k_MOST_NAME)) (bindM (bindM (bindM (cplL (mVar 0) [1] (setF 1) (retM true) (mBin (inD false) (mVar 1) (retM k_LETTERS))) fun o => retM o.d) fun d => bindM (retM []) fun ds => retM (d :: ds)) fun ds => optM (allD ds))))
  nxM))
theorem sc_is_name : FnScope N_is_name p_is_name (defScope s_is_name) := ⟨rfl, rfl, rfl, by decide +kernel, rfl, by decide +kernel, by decide +kernel⟩
theorem x_is_name {f : Addr} {fd : FuncData} (F : Fun K "is_name" "is_name" s_is_name f fd) (T : TxtJ K mg) (c_WORDS : ConD K mg "WORDS" k_WORDS) (c_LETTERS : ConD K mg "LETTERS" k_LETTERS) (c_MOST_NAME : ConD K mg "MOST_NAME" k_MOST_NAME) : FnOk HW.P HW.w K mg base CX0 1 f fd p_is_name (spM K mg N_is_name p_is_name [] m_is_name) := by
  refine def_ok (k := 0) F sc_is_name fun cdv A outer s H E hr => ?_
  have nd := sc_is_name.nd
  exact (ss_cons (s_if (b_w (bw_or (b_not (b_tru (e_isB (e_var 0) rfl T.isinstance (pe_bltn rfl T.str (by decide +kernel) rfl)))) (bw_o1 (b_cmp op_inA rd_in (e_var 0) (ConD.dE c_WORDS rfl) (by rfl))))) (ss_cons (s_ret e_bl)
  ss_nil) ss_nil)
  (ss_cons (s_ret (e_and (e_chain op_le op_le rd_cmp rd_cmp e_int (e_bi call_len cd_len rfl T.len (by decide +kernel) (la_cons (e_var 0) la_nil)) (ConD.dE c_MOST_NAME rfl)) (e_1 (e_bi (cr_all rfl) cd_all rfl T.all (by decide +kernel) (la_cons (e_frz (o_lcL (own := [("letter", 1)]) (vs := [1]) rfl rfl nd (e_var 0) (blkOk_by (N := N_is_name) (sc := defScope s_is_name) (by decide +kernel)) (fun _ _ _ _ _ => (pg_name (i := 1) nd rfl (by first | exact Or.inl rfl | exact Or.inr rfl))) (tg_name (by decide)) (tw_name (by decide)) (fun _ _ _ _ _ => pts_0) (fun _ _ _ _ _ => (e_cmp op_inA rd_in (e_var 1) (ConD.dE c_LETTERS rfl) (by rfl))))) la_nil)))))
  ss_nil))

abbrev s_is_switch : Stmt := top 20
abbrev N_is_switch : List Str := ["switches", "value"]
abbrev p_is_switch : List Str := ["switches", "value"]
def m_is_switch : MS := (seqM (retMS (andV (bindM (mVar 1) fun d => optM (isB "str" d)) (mBin (inD false) (mVar 1) (mVar 0))))
  nxM)
theorem sc_is_switch : FnScope N_is_switch p_is_switch (defScope s_is_switch) := ⟨rfl, rfl, rfl, by decide +kernel, rfl, by decide +kernel, by decide +kernel⟩
theorem x_is_switch {f : Addr} {fd : FuncData} (F : Fun K "is_switch" "is_switch" s_is_switch f fd) (T : TxtJ K mg)  : FnOk HW.P HW.w K mg base CX0 1 f fd p_is_switch (spM K mg N_is_switch p_is_switch [] m_is_switch) := by
  refine def_ok (k := 0) F sc_is_switch fun cdv A outer s H E hr => ?_
  have nd := sc_is_switch.nd
  exact (ss_cons (s_ret (e_and (e_isB (e_var 1) rfl T.isinstance (pe_bltn rfl T.str (by decide +kernel) rfl)) (e_1 (e_cmp op_inA rd_in (e_var 1) (e_var 0) (by rfl)))))
  ss_nil)

abbrev s_is_sign : Stmt := top 21
abbrev N_is_sign : List Str := ["value"]
abbrev p_is_sign : List Str := ["value"]
def m_is_sign : MS := (seqM (retMS (andV (bindM (mVar 0) fun d => optM (isB "str" d)) (mBin (inD false) (mVar 0) (retM k_SIGNS))))
  nxM)
theorem sc_is_sign : FnScope N_is_sign p_is_sign (defScope s_is_sign) := ⟨rfl, rfl, rfl, by decide +kernel, rfl, by decide +kernel, by decide +kernel⟩
theorem x_is_sign {f : Addr} {fd : FuncData} (F : Fun K "is_sign" "is_sign" s_is_sign f fd) (T : TxtJ K mg) (c_SIGNS : ConD K mg "SIGNS" k_SIGNS) : FnOk HW.P HW.w K mg base CX0 1 f fd p_is_sign (spM K mg N_is_sign p_is_sign [] m_is_sign) := by
  refine def_ok (k := 0) F sc_is_sign fun cdv A outer s H E hr => ?_
  have nd := sc_is_sign.nd
  exact (ss_cons (s_ret (e_and (e_isB (e_var 0) rfl T.isinstance (pe_bltn rfl T.str (by decide +kernel) rfl)) (e_1 (e_cmp op_inA rd_in (e_var 0) (ConD.dE c_SIGNS rfl) (by rfl)))))
  ss_nil)

abbrev s_is_literal : Stmt := top 22
abbrev N_is_literal : List Str := ["switches", "value"]
abbrev p_is_literal : List Str := ["switches", "value"]
def m_is_literal : MS := (seqM (ifS (orB (bindM (bindM (bindM (mVar 1) fun d => optM (isB "tuple" d)) fun d => optM (truD d)) fun k => retM !k) (bindM (mBin (eqD true) (bindM (bindM (mVar 1) fun d => bindM (retM []) fun ds => retM (d :: ds)) fun ds => optM (lenD ds)) (retM (.int 2))) fun d => optM (blD d))) (seqM (retMS (retM (.bl false)))
  nxM) nxM)
  (seqM (retMS (andV (callD 2 m_is_switch (bindM (mVar 0) fun d => bindM (bindM (mBin atD (mVar 1) (retM (.int 0))) fun d => bindM (retM []) fun ds => retM (d :: ds)) fun ds => retM (d :: ds)) []) (callD 1 m_is_sign (bindM (mBin atD (mVar 1) (retM (.int 1))) fun d => bindM (retM []) fun ds => retM (d :: ds)) [])))
  nxM))
theorem sc_is_literal : FnScope N_is_literal p_is_literal (defScope s_is_literal) := ⟨rfl, rfl, rfl, by decide +kernel, rfl, by decide +kernel, by decide +kernel⟩
theorem x_is_literal {f : Addr} {fd : FuncData} (F : Fun K "is_literal" "is_literal" s_is_literal f fd) (T : TxtJ K mg) (d_is_sign : DefX HW.P HW.w K mg base 1 "is_sign" N_is_sign p_is_sign [] m_is_sign) (d_is_switch : DefX HW.P HW.w K mg base 1 "is_switch" N_is_switch p_is_switch [] m_is_switch) : FnOk HW.P HW.w K mg base CX0 2 f fd p_is_literal (spM K mg N_is_literal p_is_literal [] m_is_literal) := by
  refine def_ok (k := 1) F sc_is_literal fun cdv A outer s H E hr => ?_
  have nd := sc_is_literal.nd
  exact (ss_cons (s_if (b_w (bw_or (b_not (b_tru (e_isB (e_var 1) rfl T.isinstance (pe_bltn rfl T.tuple (by decide +kernel) rfl)))) (bw_o1 (b_cmp (op_neD hr.units) rd_ne (e_bi call_len cd_len rfl T.len (by decide +kernel) (la_cons (e_var 1) la_nil)) e_int (nobehind _ (by decide) (by decide)))))) (ss_cons (s_ret e_bl)
  ss_nil) ss_nil)
  (ss_cons (s_ret (e_and (e_callX d_is_switch (hr.mono (by decide)) rfl rfl (la_cons (e_var 0) (la_cons (e_ix (e_var 1) e_int) la_nil)) (len_cons (len_cons len_nil)) rfl) (e_1 (e_callX d_is_sign (hr.mono (by decide)) rfl rfl (la_cons (e_ix (e_var 1) e_int) la_nil) (len_cons len_nil) rfl))))
  ss_nil))

abbrev s_is_setting : Stmt := top 23
abbrev N_is_setting : List Str := ["switches", "value", "sign"]
abbrev p_is_setting : List Str := ["switches", "value"]
def m_is_setting : MS := (seqM (ifS (orB (bindM (bindM (bindM (mVar 1) fun d => optM (isB "str" d)) fun d => optM (truD d)) fun k => retM !k) (bindM (mBin (eqD true) (bindM (bindM (mVar 1) fun d => bindM (retM []) fun ds => retM (d :: ds)) fun ds => optM (lenD ds)) (bindM (bindM (mVar 0) fun d => bindM (retM []) fun ds => retM (d :: ds)) fun ds => optM (lenD ds))) fun d => optM (blD d))) (seqM (retMS (retM (.bl false)))
  nxM) nxM)
  (seqM (retMS (bindM (bindM (bindM (cplL (mVar 1) [2] (setF 2) (retM true) (mBin (inD false) (mVar 2) (retM k_SIGNS))) fun o => retM o.d) fun d => bindM (retM []) fun ds => retM (d :: ds)) fun ds => optM (allD ds)))
  nxM))
theorem sc_is_setting : FnScope N_is_setting p_is_setting (defScope s_is_setting) := ⟨rfl, rfl, rfl, by decide +kernel, rfl, by decide +kernel, by decide +kernel⟩
theorem x_is_setting {f : Addr} {fd : FuncData} (F : Fun K "is_setting" "is_setting" s_is_setting f fd) (T : TxtJ K mg) (c_SIGNS : ConD K mg "SIGNS" k_SIGNS) : FnOk HW.P HW.w K mg base CX0 1 f fd p_is_setting (spM K mg N_is_setting p_is_setting [] m_is_setting) := by
  refine def_ok (k := 0) F sc_is_setting fun cdv A outer s H E hr => ?_
  have nd := sc_is_setting.nd
  exact (ss_cons (s_if (b_w (bw_or (b_not (b_tru (e_isB (e_var 1) rfl T.isinstance (pe_bltn rfl T.str (by decide +kernel) rfl)))) (bw_o1 (b_cmp (op_neD hr.units) rd_ne (e_bi call_len cd_len rfl T.len (by decide +kernel) (la_cons (e_var 1) la_nil)) (e_bi call_len cd_len rfl T.len (by decide +kernel) (la_cons (e_var 0) la_nil)) (nobehind _ (by decide) (by decide)))))) (ss_cons (s_ret e_bl)
  ss_nil) ss_nil)
  (ss_cons (s_ret (e_bi (cr_all rfl) cd_all rfl T.all (by decide +kernel) (la_cons (e_frz (o_lcL (own := [("sign", 2)]) (vs := [2]) rfl rfl nd (e_var 1) (blkOk_by (N := N_is_setting) (sc := defScope s_is_setting) (by decide +kernel)) (fun _ _ _ _ _ => (pg_name (i := 2) nd rfl (by first | exact Or.inl rfl | exact Or.inr rfl))) (tg_name (by decide)) (tw_name (by decide)) (fun _ _ _ _ _ => pts_0) (fun _ _ _ _ _ => (e_cmp op_inA rd_in (e_var 2) (ConD.dE c_SIGNS rfl) (by rfl))))) la_nil)))
  ss_nil))

abbrev s_is_rule : Stmt := top 24
abbrev N_is_rule : List Str := ["switches", "value", "word", "first", "second"]
abbrev p_is_rule : List Str := ["switches", "value"]
def m_is_rule : MS := (seqM (ifS (orB (bindM (bindM (bindM (mVar 1) fun d => optM (isB "tuple" d)) fun d => optM (truD d)) fun k => retM !k) (orB (bindM (bindM (chM (cmpD fun i j => decide (i ≤ j)) (cmpD fun i j => decide (i ≤ j)) (retM (.int 2)) (bindM (bindM (mVar 1) fun d => bindM (retM []) fun ds => retM (d :: ds)) fun ds => optM (lenD ds)) (retM (.int 3))) fun d => optM (blD d)) fun k => retM !k) (bindM (bindM (bindM (mBin atD (mVar 1) (retM (.int 0))) fun d => optM (isB "str" d)) fun d => optM (truD d)) fun k => retM !k))) (seqM (retMS (retM (.bl false)))
  nxM) nxM)
  (seqM (ifS (bindM (mBin (eqD false) (bindM (bindM (mVar 1) fun d => bindM (retM []) fun ds => retM (d :: ds)) fun ds => optM (lenD ds)) (retM (.int 2))) fun d => optM (blD d)) (seqM (retMS (andV (mBin (eqD false) (mBin atD (mVar 1) (retM (.int 0))) (retM (.str ("be" : Str)))) (callD 2 m_is_literal (bindM (mVar 0) fun d => bindM (bindM (mBin atD (mVar 1) (retM (.int 1))) fun d => bindM (retM []) fun ds => retM (d :: ds)) fun ds => retM (d :: ds)) [])))
  nxM) nxM)
  (seqM (asgM (mVar 1) (tupF 3 (consF (setF 2) (consF (setF 3) (consF (setF 4) nilF)))))
  (seqM (ifS (bindM (mBin (inD false) (mVar 2) (retM k_LITERAL_WORDS)) fun d => optM (blD d)) (seqM (retMS (andV (callD 2 m_is_literal (bindM (mVar 0) fun d => bindM (bindM (mVar 3) fun d => bindM (retM []) fun ds => retM (d :: ds)) fun ds => retM (d :: ds)) []) (andV (callD 2 m_is_literal (bindM (mVar 0) fun d => bindM (bindM (mVar 4) fun d => bindM (retM []) fun ds => retM (d :: ds)) fun ds => retM (d :: ds)) []) (mBin (eqD true) (mBin atD (mVar 3) (retM (.int 0))) (mBin atD (mVar 4) (retM (.int 0)))))))
  nxM) nxM)
  (seqM (ifS (bindM (mBin (inD false) (mVar 2) (retM k_NAME_WORDS)) fun d => optM (blD d)) (seqM (retMS (andV (callD 2 m_is_switch (bindM (mVar 0) fun d => bindM (bindM (mVar 3) fun d => bindM (retM []) fun ds => retM (d :: ds)) fun ds => retM (d :: ds)) []) (andV (callD 2 m_is_switch (bindM (mVar 0) fun d => bindM (bindM (mVar 4) fun d => bindM (retM []) fun ds => retM (d :: ds)) fun ds => retM (d :: ds)) []) (mBin (eqD true) (mVar 3) (mVar 4)))))
  nxM) nxM)
  (seqM (retMS (retM (.bl false)))
  nxM))))))
theorem sc_is_rule : FnScope N_is_rule p_is_rule (defScope s_is_rule) := ⟨rfl, rfl, rfl, by decide +kernel, rfl, by decide +kernel, by decide +kernel⟩
theorem x_is_rule {f : Addr} {fd : FuncData} (F : Fun K "is_rule" "is_rule" s_is_rule f fd) (T : TxtJ K mg) (c_LITERAL_WORDS : ConD K mg "LITERAL_WORDS" k_LITERAL_WORDS) (c_NAME_WORDS : ConD K mg "NAME_WORDS" k_NAME_WORDS) (d_is_literal : DefX HW.P HW.w K mg base 2 "is_literal" N_is_literal p_is_literal [] m_is_literal) (d_is_switch : DefX HW.P HW.w K mg base 1 "is_switch" N_is_switch p_is_switch [] m_is_switch) : FnOk HW.P HW.w K mg base CX0 3 f fd p_is_rule (spM K mg N_is_rule p_is_rule [] m_is_rule) := by
  refine def_ok (k := 2) F sc_is_rule fun cdv A outer s H E hr => ?_
  have nd := sc_is_rule.nd
  exact (ss_cons (s_if (b_w (bw_or (b_not (b_tru (e_isB (e_var 1) rfl T.isinstance (pe_bltn rfl T.tuple (by decide +kernel) rfl)))) (bw_or (b_not (b_chain op_le op_le rd_cmp rd_cmp e_int (e_bi call_len cd_len rfl T.len (by decide +kernel) (la_cons (e_var 1) la_nil)) e_int)) (bw_o1 (b_not (b_tru (e_isB (e_ix (e_var 1) e_int) rfl T.isinstance (pe_bltn rfl T.str (by decide +kernel) rfl)))))))) (ss_cons (s_ret e_bl)
  ss_nil) ss_nil)
  (ss_cons (s_if (b_cmp (op_eqD hr.units) rd_eq (e_bi call_len cd_len rfl T.len (by decide +kernel) (la_cons (e_var 1) la_nil)) e_int (nobehind _ (by decide) (by decide))) (ss_cons (s_ret (e_and (e_cmp (op_eqD hr.units) rd_eq (e_ix (e_var 1) e_int) e_str (nobehind _ (by decide) (by decide))) (e_1 (e_callX d_is_literal (hr.mono (by decide)) rfl rfl (la_cons (e_var 0) (la_cons (e_ix (e_var 1) e_int) la_nil)) (len_cons (len_cons len_nil)) rfl))))
  ss_nil) ss_nil)
  (ss_cons (s_asg (e_var 1) (pg_tup rfl (pgs_cons (pg_name (i := 2) nd rfl (by first | exact Or.inl rfl | exact Or.inr rfl)) (pgs_cons (pg_name (i := 3) nd rfl (by first | exact Or.inl rfl | exact Or.inr rfl)) (pgs_cons (pg_name (i := 4) nd rfl (by first | exact Or.inl rfl | exact Or.inr rfl)) pgs_nil)))) (tg_tup (tg_cons (tg_name (by decide)) (tg_cons (tg_name (by decide)) (tg_cons (tg_name (by decide)) tg_nil)))))
  (ss_cons (s_if (b_cmp op_inA rd_in (e_var 2) (ConD.dE c_LITERAL_WORDS rfl) (by rfl)) (ss_cons (s_ret (e_and (e_callX d_is_literal (hr.mono (by decide)) rfl rfl (la_cons (e_var 0) (la_cons (e_var 3) la_nil)) (len_cons (len_cons len_nil)) rfl) (e_and (e_callX d_is_literal (hr.mono (by decide)) rfl rfl (la_cons (e_var 0) (la_cons (e_var 4) la_nil)) (len_cons (len_cons len_nil)) rfl) (e_1 (e_cmp (op_neD hr.units) rd_ne (e_ix (e_var 3) e_int) (e_ix (e_var 4) e_int) (nobehind _ (by decide) (by decide)))))))
  ss_nil) ss_nil)
  (ss_cons (s_if (b_cmp op_inA rd_in (e_var 2) (ConD.dE c_NAME_WORDS rfl) (by rfl)) (ss_cons (s_ret (e_and (e_callX d_is_switch (hr.mono (by decide)) rfl rfl (la_cons (e_var 0) (la_cons (e_var 3) la_nil)) (len_cons (len_cons len_nil)) rfl) (e_and (e_callX d_is_switch (hr.mono (by decide)) rfl rfl (la_cons (e_var 0) (la_cons (e_var 4) la_nil)) (len_cons (len_cons len_nil)) rfl) (e_1 (e_cmp (op_neD hr.units) rd_ne (e_var 3) (e_var 4) (nobehind _ (by decide) (by decide)))))))
  ss_nil) ss_nil)
  (ss_cons (s_ret e_bl)
  ss_nil))))))

abbrev s_check_switches : Stmt := top 25
abbrev N_check_switches : List Str := ["switches", "index", "name"]
abbrev p_check_switches : List Str := ["switches"]
def m_check_switches : MS := (seqM (ifS (orB (bindM (bindM (bindM (mVar 0) fun d => optM (isB "tuple" d)) fun d => optM (truD d)) fun k => retM !k) (bindM (mBin (eqD false) (bindM (bindM (mVar 0) fun d => bindM (retM []) fun ds => retM (d :: ds)) fun ds => optM (lenD ds)) (retM (.int 0))) fun d => optM (blD d))) (seqM stuckM
  nxM) nxM)
  (seqM (forE (mVar 0) (consF (setF 1) (consF (setF 2) nilF))
  (seqM (ifS (orB (bindM (mBin (cmpD fun i j => decide (j ≤ i)) (mVar 1) (retM k_MOST_SWITCHES)) fun d => optM (blD d)) (orB (bindM (bindM (callD 2 m_is_name (bindM (mVar 2) fun d => bindM (retM []) fun ds => retM (d :: ds)) []) fun d => optM (truD d)) fun k => retM !k) (bindM (mBin (inD false) (mVar 2) (slM slL (mVar 0) (retM none) (bindM (mVar 1) fun d => optM ((intD d).map some)))) fun d => optM (blD d)))) (seqM stuckM
  nxM) nxM)
  nxM))
  nxM))
theorem sc_check_switches : FnScope N_check_switches p_check_switches (defScope s_check_switches) := ⟨rfl, rfl, rfl, by decide +kernel, rfl, by decide +kernel, by decide +kernel⟩
theorem x_check_switches {f : Addr} {fd : FuncData} (F : Fun K "check_switches" "check_switches" s_check_switches f fd) (T : TxtJ K mg) (c_MOST_SWITCHES : ConD K mg "MOST_SWITCHES" k_MOST_SWITCHES) (d_is_name : DefX HW.P HW.w K mg base 1 "is_name" N_is_name p_is_name [] m_is_name) : FnOk HW.P HW.w K mg base CX0 2 f fd p_check_switches (spM K mg N_check_switches p_check_switches [] m_check_switches) := by
  refine def_ok (k := 1) F sc_check_switches fun cdv A outer s H E hr => ?_
  have nd := sc_check_switches.nd
  exact (ss_cons (s_if (b_w (bw_or (b_not (b_tru (e_isB (e_var 0) rfl T.isinstance (pe_bltn rfl T.tuple (by decide +kernel) rfl)))) (bw_o1 (b_cmp (op_eqD hr.units) rd_eq (e_bi call_len cd_len rfl T.len (by decide +kernel) (la_cons (e_var 0) la_nil)) e_int (nobehind _ (by decide) (by decide)))))) (ss_cons s_never
  ss_nil) ss_nil)
  (ss_cons (s_forE (e_var 0) rfl T.enumerate (pg_tup rfl (pgs_cons (pg_name (i := 1) nd rfl (by first | exact Or.inl rfl | exact Or.inr rfl)) (pgs_cons (pg_name (i := 2) nd rfl (by first | exact Or.inl rfl | exact Or.inr rfl)) pgs_nil))) (tg_cons (tg_name (by decide)) (tg_cons (tg_name (by decide)) tg_nil))
  (ss_cons (s_if (b_w (bw_or (b_cmp op_ge rd_cmp (e_var 1) (ConD.dE c_MOST_SWITCHES rfl) (nobehind _ (by decide) (by decide))) (bw_or (b_not (b_tru (e_callX d_is_name (hr.mono (by decide)) rfl rfl (la_cons (e_var 2) la_nil) (len_cons len_nil) rfl))) (bw_o1 (b_cmp op_inA rd_in (e_var 2) (e_slA (e_var 0) ip_none (ip_some (e_var 1))) (by rfl)))))) (ss_cons s_never
  ss_nil) ss_nil)
  ss_nil) rfl PassesOwn.never)
  ss_nil))

abbrev s_check_rules : Stmt := top 26
abbrev N_check_rules : List Str := ["switches", "rules", "index", "rule"]
abbrev p_check_rules : List Str := ["switches", "rules"]
def m_check_rules : MS := (seqM (ifS (bindM (bindM (bindM (mVar 1) fun d => optM (isB "tuple" d)) fun d => optM (truD d)) fun k => retM !k) (seqM stuckM
  nxM) nxM)
  (seqM (forE (mVar 1) (consF (setF 2) (consF (setF 3) nilF))
  (seqM (ifS (orB (bindM (mBin (cmpD fun i j => decide (j ≤ i)) (mVar 2) (retM k_MOST_RULES)) fun d => optM (blD d)) (bindM (bindM (callD 5 m_is_rule (bindM (mVar 0) fun d => bindM (bindM (mVar 3) fun d => bindM (retM []) fun ds => retM (d :: ds)) fun ds => retM (d :: ds)) []) fun d => optM (truD d)) fun k => retM !k)) (seqM stuckM
  nxM) nxM)
  nxM))
  nxM))
theorem sc_check_rules : FnScope N_check_rules p_check_rules (defScope s_check_rules) := ⟨rfl, rfl, rfl, by decide +kernel, rfl, by decide +kernel, by decide +kernel⟩
theorem x_check_rules {f : Addr} {fd : FuncData} (F : Fun K "check_rules" "check_rules" s_check_rules f fd) (T : TxtJ K mg) (c_MOST_RULES : ConD K mg "MOST_RULES" k_MOST_RULES) (d_is_rule : DefX HW.P HW.w K mg base 3 "is_rule" N_is_rule p_is_rule [] m_is_rule) : FnOk HW.P HW.w K mg base CX0 4 f fd p_check_rules (spM K mg N_check_rules p_check_rules [] m_check_rules) := by
  refine def_ok (k := 3) F sc_check_rules fun cdv A outer s H E hr => ?_
  have nd := sc_check_rules.nd
  exact (ss_cons (s_if (b_not (b_tru (e_isB (e_var 1) rfl T.isinstance (pe_bltn rfl T.tuple (by decide +kernel) rfl)))) (ss_cons s_never
  ss_nil) ss_nil)
  (ss_cons (s_forE (e_var 1) rfl T.enumerate (pg_tup rfl (pgs_cons (pg_name (i := 2) nd rfl (by first | exact Or.inl rfl | exact Or.inr rfl)) (pgs_cons (pg_name (i := 3) nd rfl (by first | exact Or.inl rfl | exact Or.inr rfl)) pgs_nil))) (tg_cons (tg_name (by decide)) (tg_cons (tg_name (by decide)) tg_nil))
  (ss_cons (s_if (b_w (bw_or (b_cmp op_ge rd_cmp (e_var 2) (ConD.dE c_MOST_RULES rfl) (nobehind _ (by decide) (by decide))) (bw_o1 (b_not (b_tru (e_callX d_is_rule (hr.mono (by decide)) rfl rfl (la_cons (e_var 0) (la_cons (e_var 3) la_nil)) (len_cons (len_cons len_nil)) rfl)))))) (ss_cons s_never
  ss_nil) ss_nil)
  ss_nil) rfl PassesOwn.never)
  ss_nil))

abbrev s_opposite : Stmt := top 27
abbrev N_opposite : List Str := ["literal", "name", "sign"]
abbrev p_opposite : List Str := ["literal"]
def m_opposite : MS := (seqM (asgM (mVar 0) (tupF 2 (consF (setF 1) (consF (setF 2) nilF))))
  (seqM (retMS (bindM (bindM (mVar 1) fun d => bindM (bindM (ifM (bindM (mBin (eqD false) (mVar 2) (retM (.str ("+" : Str)))) fun d => optM (blD d)) (retM (.str ("-" : Str))) (retM (.str ("+" : Str)))) fun d => bindM (retM []) fun ds => retM (d :: ds)) fun ds => retM (d :: ds)) fun ds => optM (tupM ds)))
  nxM))
theorem sc_opposite : FnScope N_opposite p_opposite (defScope s_opposite) := ⟨rfl, rfl, rfl, by decide +kernel, rfl, by decide +kernel, by decide +kernel⟩
theorem x_opposite {f : Addr} {fd : FuncData} (F : Fun K "opposite" "opposite" s_opposite f fd) (T : TxtJ K mg)  : FnOk HW.P HW.w K mg base CX0 1 f fd p_opposite (spM K mg N_opposite p_opposite [] m_opposite) := by
  refine def_ok (k := 0) F sc_opposite fun cdv A outer s H E hr => ?_
  have nd := sc_opposite.nd
  exact (ss_cons (s_asg (e_var 0) (pg_tup rfl (pgs_cons (pg_name (i := 1) nd rfl (by first | exact Or.inl rfl | exact Or.inr rfl)) (pgs_cons (pg_name (i := 2) nd rfl (by first | exact Or.inl rfl | exact Or.inr rfl)) pgs_nil))) (tg_tup (tg_cons (tg_name (by decide)) (tg_cons (tg_name (by decide)) tg_nil))))
  (ss_cons (s_ret (e_tup (la_cons (e_var 1) (la_cons (e_if (b_cmp (op_eqD hr.units) rd_eq (e_var 2) e_str (nobehind _ (by decide) (by decide))) e_str e_str) la_nil))))
  ss_nil))

abbrev s_clauses : Stmt := top 28
abbrev N_clauses : List Str := ["rule", "word", "first", "second"]
abbrev p_clauses : List Str := ["rule"]
def m_clauses : MS := (seqM (parM3 1 2 3 (bindM (mBin atD (mVar 0) (retM (.int 0))) fun d => bindM (bindM (mBin atD (mVar 0) (retM (.int 1))) fun d => bindM (bindM (mBin atD (mVar 0) (bindM (retM (.int 1)) fun d => optM (negD d))) fun d => bindM (retM []) fun ds => retM (d :: ds)) fun ds => retM (d :: ds)) fun ds => retM (d :: ds)))
  (seqM (ifS (bindM (mBin (eqD false) (mVar 1) (retM (.str ("same" : Str)))) fun d => optM (blD d)) (seqM (retMS (bindM (bindM (bindM (bindM (bindM (bindM (mVar 2) fun d => bindM (bindM (retM (.str ("-" : Str))) fun d => bindM (retM []) fun ds => retM (d :: ds)) fun ds => retM (d :: ds)) fun ds => optM (tupM ds)) fun d => bindM (bindM (bindM (bindM (mVar 3) fun d => bindM (bindM (retM (.str ("+" : Str))) fun d => bindM (retM []) fun ds => retM (d :: ds)) fun ds => retM (d :: ds)) fun ds => optM (tupM ds)) fun d => bindM (retM []) fun ds => retM (d :: ds)) fun ds => retM (d :: ds)) fun ds => optM (tupM ds)) fun d => bindM (bindM (bindM (bindM (bindM (bindM (mVar 2) fun d => bindM (bindM (retM (.str ("+" : Str))) fun d => bindM (retM []) fun ds => retM (d :: ds)) fun ds => retM (d :: ds)) fun ds => optM (tupM ds)) fun d => bindM (bindM (bindM (bindM (mVar 3) fun d => bindM (bindM (retM (.str ("-" : Str))) fun d => bindM (retM []) fun ds => retM (d :: ds)) fun ds => retM (d :: ds)) fun ds => optM (tupM ds)) fun d => bindM (retM []) fun ds => retM (d :: ds)) fun ds => retM (d :: ds)) fun ds => optM (tupM ds)) fun d => bindM (retM []) fun ds => retM (d :: ds)) fun ds => retM (d :: ds)) fun ds => optM (tupM ds)))
  nxM) nxM)
  (seqM (ifS (bindM (mBin (eqD false) (mVar 1) (retM (.str ("unlike" : Str)))) fun d => optM (blD d)) (seqM (retMS (bindM (bindM (bindM (bindM (bindM (bindM (mVar 2) fun d => bindM (bindM (retM (.str ("+" : Str))) fun d => bindM (retM []) fun ds => retM (d :: ds)) fun ds => retM (d :: ds)) fun ds => optM (tupM ds)) fun d => bindM (bindM (bindM (bindM (mVar 3) fun d => bindM (bindM (retM (.str ("+" : Str))) fun d => bindM (retM []) fun ds => retM (d :: ds)) fun ds => retM (d :: ds)) fun ds => optM (tupM ds)) fun d => bindM (retM []) fun ds => retM (d :: ds)) fun ds => retM (d :: ds)) fun ds => optM (tupM ds)) fun d => bindM (bindM (bindM (bindM (bindM (bindM (mVar 2) fun d => bindM (bindM (retM (.str ("-" : Str))) fun d => bindM (retM []) fun ds => retM (d :: ds)) fun ds => retM (d :: ds)) fun ds => optM (tupM ds)) fun d => bindM (bindM (bindM (bindM (mVar 3) fun d => bindM (bindM (retM (.str ("-" : Str))) fun d => bindM (retM []) fun ds => retM (d :: ds)) fun ds => retM (d :: ds)) fun ds => optM (tupM ds)) fun d => bindM (retM []) fun ds => retM (d :: ds)) fun ds => retM (d :: ds)) fun ds => optM (tupM ds)) fun d => bindM (retM []) fun ds => retM (d :: ds)) fun ds => retM (d :: ds)) fun ds => optM (tupM ds)))
  nxM) nxM)
  (seqM (ifS (bindM (mBin (eqD false) (mVar 1) (retM (.str ("needs" : Str)))) fun d => optM (blD d)) (seqM (retMS (bindM (bindM (bindM (bindM (callD 3 m_opposite (bindM (mVar 2) fun d => bindM (retM []) fun ds => retM (d :: ds)) []) fun d => bindM (bindM (mVar 3) fun d => bindM (retM []) fun ds => retM (d :: ds)) fun ds => retM (d :: ds)) fun ds => optM (tupM ds)) fun d => bindM (retM []) fun ds => retM (d :: ds)) fun ds => optM (tupM ds)))
  nxM) nxM)
  (seqM (ifS (bindM (mBin (eqD false) (mVar 1) (retM (.str ("bars" : Str)))) fun d => optM (blD d)) (seqM (retMS (bindM (bindM (bindM (bindM (callD 3 m_opposite (bindM (mVar 2) fun d => bindM (retM []) fun ds => retM (d :: ds)) []) fun d => bindM (bindM (callD 3 m_opposite (bindM (mVar 3) fun d => bindM (retM []) fun ds => retM (d :: ds)) []) fun d => bindM (retM []) fun ds => retM (d :: ds)) fun ds => retM (d :: ds)) fun ds => optM (tupM ds)) fun d => bindM (retM []) fun ds => retM (d :: ds)) fun ds => optM (tupM ds)))
  nxM) nxM)
  (seqM (retMS (bindM (bindM (bindM (bindM (mVar 2) fun d => bindM (bindM (mVar 3) fun d => bindM (retM []) fun ds => retM (d :: ds)) fun ds => retM (d :: ds)) fun ds => optM (tupM ds)) fun d => bindM (retM []) fun ds => retM (d :: ds)) fun ds => optM (tupM ds)))
  nxM))))))
theorem sc_clauses : FnScope N_clauses p_clauses (defScope s_clauses) := ⟨rfl, rfl, rfl, by decide +kernel, rfl, by decide +kernel, by decide +kernel⟩
theorem x_clauses {f : Addr} {fd : FuncData} (F : Fun K "clauses" "clauses" s_clauses f fd) (T : TxtJ K mg) (d_opposite : DefX HW.P HW.w K mg base 1 "opposite" N_opposite p_opposite [] m_opposite) : FnOk HW.P HW.w K mg base CX0 2 f fd p_clauses (spM K mg N_clauses p_clauses [] m_clauses) := by
  refine def_ok (k := 1) F sc_clauses fun cdv A outer s H E hr => ?_
  have nd := sc_clauses.nd
  exact (ss_cons (s_par3 (i := 1) (j := 2) (l := 3) rfl rfl rfl (by decide) (by decide) (by decide) rfl rfl rfl (la_cons (e_ix (e_var 0) e_int) (la_cons (e_ix (e_var 0) e_int) (la_cons (e_ix (e_var 0) (e_neg e_int)) la_nil))) (by decide) (by decide) (by decide) rfl nd)
  (ss_cons (s_if (b_cmp (op_eqD hr.units) rd_eq (e_var 1) e_str (nobehind _ (by decide) (by decide))) (ss_cons (s_ret (e_tup (la_cons (e_tup (la_cons (e_tup (la_cons (e_var 2) (la_cons e_str la_nil))) (la_cons (e_tup (la_cons (e_var 3) (la_cons e_str la_nil))) la_nil))) (la_cons (e_tup (la_cons (e_tup (la_cons (e_var 2) (la_cons e_str la_nil))) (la_cons (e_tup (la_cons (e_var 3) (la_cons e_str la_nil))) la_nil))) la_nil))))
  ss_nil) ss_nil)
  (ss_cons (s_if (b_cmp (op_eqD hr.units) rd_eq (e_var 1) e_str (nobehind _ (by decide) (by decide))) (ss_cons (s_ret (e_tup (la_cons (e_tup (la_cons (e_tup (la_cons (e_var 2) (la_cons e_str la_nil))) (la_cons (e_tup (la_cons (e_var 3) (la_cons e_str la_nil))) la_nil))) (la_cons (e_tup (la_cons (e_tup (la_cons (e_var 2) (la_cons e_str la_nil))) (la_cons (e_tup (la_cons (e_var 3) (la_cons e_str la_nil))) la_nil))) la_nil))))
  ss_nil) ss_nil)
  (ss_cons (s_if (b_cmp (op_eqD hr.units) rd_eq (e_var 1) e_str (nobehind _ (by decide) (by decide))) (ss_cons (s_ret (e_tup (la_cons (e_tup (la_cons (e_callX d_opposite (hr.mono (by decide)) rfl rfl (la_cons (e_var 2) la_nil) (len_cons len_nil) rfl) (la_cons (e_var 3) la_nil))) la_nil)))
  ss_nil) ss_nil)
  (ss_cons (s_if (b_cmp (op_eqD hr.units) rd_eq (e_var 1) e_str (nobehind _ (by decide) (by decide))) (ss_cons (s_ret (e_tup (la_cons (e_tup (la_cons (e_callX d_opposite (hr.mono (by decide)) rfl rfl (la_cons (e_var 2) la_nil) (len_cons len_nil) rfl) (la_cons (e_callX d_opposite (hr.mono (by decide)) rfl rfl (la_cons (e_var 3) la_nil) (len_cons len_nil) rfl) la_nil))) la_nil)))
  ss_nil) ss_nil)
  (ss_cons (s_ret (e_tup (la_cons (e_tup (la_cons (e_var 2) (la_cons (e_var 3) la_nil))) la_nil)))
  ss_nil))))))

abbrev s_has_literal : Stmt := top 29
abbrev N_has_literal : List Str := ["switches", "setting", "literal", "name", "sign"]
abbrev p_has_literal : List Str := ["switches", "setting", "literal"]
def m_has_literal : MS := (seqM (asgM (mVar 2) (tupF 2 (consF (setF 3) (consF (setF 4) nilF))))
  (seqM (retMS (mBin (eqD false) (mBin atD (mVar 1) (mBin tixD (mVar 0) (mVar 3))) (mVar 4)))
  nxM))
theorem sc_has_literal : FnScope N_has_literal p_has_literal (defScope s_has_literal) := ⟨rfl, rfl, rfl, by decide +kernel, rfl, by decide +kernel, by decide +kernel⟩
theorem x_has_literal {f : Addr} {fd : FuncData} (F : Fun K "has_literal" "has_literal" s_has_literal f fd) (T : TxtJ K mg)  : FnOk HW.P HW.w K mg base CX0 1 f fd p_has_literal (spM K mg N_has_literal p_has_literal [] m_has_literal) := by
  refine def_ok (k := 0) F sc_has_literal fun cdv A outer s H E hr => ?_
  have nd := sc_has_literal.nd
  exact (ss_cons (s_asg (e_var 2) (pg_tup rfl (pgs_cons (pg_name (i := 3) nd rfl (by first | exact Or.inl rfl | exact Or.inr rfl)) (pgs_cons (pg_name (i := 4) nd rfl (by first | exact Or.inl rfl | exact Or.inr rfl)) pgs_nil))) (tg_tup (tg_cons (tg_name (by decide)) (tg_cons (tg_name (by decide)) tg_nil))))
  (ss_cons (s_ret (e_cmp (op_eqD hr.units) rd_eq (e_ix (e_var 1) (e_tix (e_var 0) (e_var 3))) (e_var 4) (nobehind _ (by decide) (by decide))))
  ss_nil))

abbrev s_keeps : Stmt := top 30
abbrev N_keeps : List Str := ["switches", "setting", "rule", "first", "second"]
abbrev p_keeps : List Str := ["switches", "setting", "rule"]
def m_keeps : MS := (seqM (retMS (bindM (bindM (bindM (cplL (callD 4 m_clauses (bindM (mVar 2) fun d => bindM (retM []) fun ds => retM (d :: ds)) []) [3, 4] (tupF 2 (consF (setF 3) (consF (setF 4) nilF))) (retM true) (orV (callD 5 m_has_literal (bindM (mVar 0) fun d => bindM (bindM (mVar 1) fun d => bindM (bindM (mVar 3) fun d => bindM (retM []) fun ds => retM (d :: ds)) fun ds => retM (d :: ds)) fun ds => retM (d :: ds)) []) (callD 5 m_has_literal (bindM (mVar 0) fun d => bindM (bindM (mVar 1) fun d => bindM (bindM (mVar 4) fun d => bindM (retM []) fun ds => retM (d :: ds)) fun ds => retM (d :: ds)) fun ds => retM (d :: ds)) []))) fun o => retM o.d) fun d => bindM (retM []) fun ds => retM (d :: ds)) fun ds => optM (allD ds)))
  nxM)
theorem sc_keeps : FnScope N_keeps p_keeps (defScope s_keeps) := ⟨rfl, rfl, rfl, by decide +kernel, rfl, by decide +kernel, by decide +kernel⟩
theorem x_keeps {f : Addr} {fd : FuncData} (F : Fun K "keeps" "keeps" s_keeps f fd) (T : TxtJ K mg) (d_has_literal : DefX HW.P HW.w K mg base 1 "has_literal" N_has_literal p_has_literal [] m_has_literal) (d_clauses : DefX HW.P HW.w K mg base 2 "clauses" N_clauses p_clauses [] m_clauses) : FnOk HW.P HW.w K mg base CX0 3 f fd p_keeps (spM K mg N_keeps p_keeps [] m_keeps) := by
  refine def_ok (k := 2) F sc_keeps fun cdv A outer s H E hr => ?_
  have nd := sc_keeps.nd
  exact (ss_cons (s_ret (e_bi (cr_all rfl) cd_all rfl T.all (by decide +kernel) (la_cons (e_frz (o_lcL (own := [("first", 3), ("second", 4)]) (vs := [3, 4]) rfl rfl nd (e_callX d_clauses (hr.mono (by decide)) rfl rfl (la_cons (e_var 2) la_nil) (len_cons len_nil) rfl) (blkOk_by (N := N_keeps) (sc := defScope s_keeps) (by decide +kernel)) (fun _ _ _ _ _ => (pg_tup rfl (pgs_cons (pg_name (i := 3) nd rfl (by first | exact Or.inl rfl | exact Or.inr rfl)) (pgs_cons (pg_name (i := 4) nd rfl (by first | exact Or.inl rfl | exact Or.inr rfl)) pgs_nil)))) (tg_tup (tg_cons (tg_name (by decide)) (tg_cons (tg_name (by decide)) tg_nil))) (tw_tup2 (by decide) (by decide)) (fun _ _ _ _ _ => pts_0) (fun _ _ _ _ _ => (e_or (e_callX d_has_literal (hr.mono (by decide)) rfl rfl (la_cons (e_var 0) (la_cons (e_var 1) (la_cons (e_var 3) la_nil))) (len_cons (len_cons (len_cons len_nil))) rfl) (e_1 (e_callX d_has_literal (hr.mono (by decide)) rfl rfl (la_cons (e_var 0) (la_cons (e_var 1) (la_cons (e_var 4) la_nil))) (len_cons (len_cons (len_cons len_nil))) rfl)))))) la_nil)))
  ss_nil)

abbrev s_read_literal : Stmt := top 35
abbrev N_read_literal : List Str := ["text"]
abbrev p_read_literal : List Str := ["text"]
def m_read_literal : MS := (seqM (retMS (bindM (bindM (slM slL (mVar 0) (bindM (retM (.int 1)) fun d => optM ((intD d).map some)) (retM none)) fun d => bindM (bindM (slM slL (mVar 0) (retM none) (bindM (retM (.int 1)) fun d => optM ((intD d).map some))) fun d => bindM (retM []) fun ds => retM (d :: ds)) fun ds => retM (d :: ds)) fun ds => optM (tupM ds)))
  nxM)
theorem sc_read_literal : FnScope N_read_literal p_read_literal (defScope s_read_literal) := ⟨rfl, rfl, rfl, by decide +kernel, rfl, by decide +kernel, by decide +kernel⟩
theorem x_read_literal {f : Addr} {fd : FuncData} (F : Fun K "read_literal" "read_literal" s_read_literal f fd) (T : TxtJ K mg)  : FnOk HW.P HW.w K mg base CX0 1 f fd p_read_literal (spM K mg N_read_literal p_read_literal [] m_read_literal) := by
  refine def_ok (k := 0) F sc_read_literal fun cdv A outer s H E hr => ?_
  have nd := sc_read_literal.nd
  exact (ss_cons (s_ret (e_tup (la_cons (e_slA (e_var 0) (ip_some e_int) ip_none) (la_cons (e_slA (e_var 0) ip_none (ip_some e_int)) la_nil))))
  ss_nil)

abbrev s_read_rule : Stmt := top 36
abbrev N_read_rule : List Str := ["row", "word", "parts", "literals", "part"]
abbrev p_read_rule : List Str := ["row"]
def m_read_rule : MS := (seqM (asgM (bindM (mBinO splitD (mVar 0) (retM (.str (" " : Str)))) fun o => retM o.d) (starF (consF (setF 1) (consF (setF 2) nilF))))
  (seqM (ifS (bindM (mBin (inD false) (mVar 1) (retM k_NAME_WORDS)) fun d => optM (blD d)) (seqM (retMS (bindM (bindM (mVar 1) fun d => bindM (bindM (mVar 2) fun d => bindM (optM (seqLs d)) fun xs => bindM (retM []) fun ds => retM (xs ++ ds)) fun ds => retM (d :: ds)) fun ds => optM (tupM ds)))
  nxM) nxM)
  (seqM (asgO (cplL (mVar 2) [4] (setF 4) (retM true) (callD 1 m_read_literal (bindM (mVar 4) fun d => bindM (retM []) fun ds => retM (d :: ds)) [])) 3)
  (seqM (retMS (bindM (bindM (mVar 1) fun d => bindM (bindM (frzN 3) fun d => bindM (optM (seqLs d)) fun xs => bindM (retM []) fun ds => retM (xs ++ ds)) fun ds => retM (d :: ds)) fun ds => optM (tupM ds)))
  nxM))))
theorem sc_read_rule : FnScope N_read_rule p_read_rule (defScope s_read_rule) := ⟨rfl, rfl, rfl, by decide +kernel, rfl, by decide +kernel, by decide +kernel⟩
theorem x_read_rule {f : Addr} {fd : FuncData} (F : Fun K "read_rule" "read_rule" s_read_rule f fd) (T : TxtJ K mg) (c_NAME_WORDS : ConD K mg "NAME_WORDS" k_NAME_WORDS) (d_read_literal : DefX HW.P HW.w K mg base 1 "read_literal" N_read_literal p_read_literal [] m_read_literal) : FnOk HW.P HW.w K mg base CX0 2 f fd p_read_rule (spM K mg N_read_rule p_read_rule [] m_read_rule) := by
  refine def_ok (k := 1) F sc_read_rule fun cdv A outer s H E hr => ?_
  have nd := sc_read_rule.nd
  exact (ss_cons (s_asg (e_frz (o_split (e_var 0) e_str)) (pg_star rfl (pgs_cons (pg_name (i := 1) nd rfl (by first | exact Or.inl rfl | exact Or.inr rfl)) (pgs_cons (pg_name (i := 2) nd rfl (by first | exact Or.inl rfl | exact Or.inr rfl)) pgs_nil))) (tg_star (tg_cons (tg_name (by decide)) (tg_cons (tg_name (by decide)) tg_nil))))
  (ss_cons (s_if (b_cmp op_inA rd_in (e_var 1) (ConD.dE c_NAME_WORDS rfl) (by rfl)) (ss_cons (s_ret (e_tup (la_cons (e_var 1) (la_star (e_var 2) la_nil))))
  ss_nil) ss_nil)
  (ss_cons (s_setLcL (own := [("part", 4)]) (vs := [4]) rfl rfl nd (e_var 2) (blkOk_by (N := N_read_rule) (sc := defScope s_read_rule) (by decide +kernel)) (fun _ _ _ _ _ => (pg_name (i := 4) nd rfl (by first | exact Or.inl rfl | exact Or.inr rfl))) (tg_name (by decide)) (tw_name (by decide)) (fun _ _ _ _ _ => pts_0) (fun _ _ _ _ _ => (e_callX d_read_literal (hr.mono (by decide)) rfl rfl (la_cons (e_var 4) la_nil) (len_cons len_nil) rfl)) rfl rfl (by decide))
  (ss_cons (s_ret (e_tup (la_cons (e_var 1) (la_star (e_frzN 3 (pv 3)) la_nil))))
  ss_nil))))

abbrev s_Panel___init__ : Stmt := inClass (top 37) 0
abbrev N_Panel___init__ : List Str := ["self", "switches", "rules"]
abbrev p_Panel___init__ : List Str := ["self", "switches", "rules"]
def m_Panel___init__ : MS := (seqM (dropM (callD 3 m_check_switches (bindM (mVar 1) fun d => bindM (retM []) fun ds => retM (d :: ds)) []))
  (seqM (dropM (callD 4 m_check_rules (bindM (mVar 1) fun d => bindM (bindM (mVar 2) fun d => bindM (retM []) fun ds => retM (d :: ds)) fun ds => retM (d :: ds)) []))
  (seqM (setFM 0 "Panel" "switches" (mVar 1))
  (seqM (setFM 0 "Panel" "rules" (mVar 2))
  nxM))))
theorem sc_Panel___init__ : FnScope N_Panel___init__ p_Panel___init__ (defScope s_Panel___init__) := ⟨rfl, rfl, rfl, by decide +kernel, rfl, by decide +kernel, by decide +kernel⟩
theorem x_Panel___init__ {f : Addr} {fd : FuncData} {dvs : List V} (F : FunD K "__init__" "Panel.__init__" (defArgs s_Panel___init__) (defBody s_Panel___init__) (defScope s_Panel___init__) dvs [] f fd) (T : TxtJ K mg) (o_Panel : OwnC K mg "Panel" ["switches", "rules"]) (d_check_switches : DefX HW.P HW.w K mg base 2 "check_switches" N_check_switches p_check_switches [] m_check_switches) (d_check_rules : DefX HW.P HW.w K mg base 4 "check_rules" N_check_rules p_check_rules [] m_check_rules) : FnOk HW.P HW.w K mg base CX0 5 f fd p_Panel___init__ (spM K mg N_Panel___init__ p_Panel___init__ [0] m_Panel___init__) := by
  refine def_okD (k := 4) F sc_Panel___init__ fun cdv A outer s H E hr => ?_
  have nd := sc_Panel___init__.nd
  exact (ss_cons (s_drop (e_callX d_check_switches (hr.mono (by decide)) rfl rfl (la_cons (e_var 1) la_nil) (len_cons len_nil) rfl))
  (ss_cons (s_drop (e_callX d_check_rules (hr.mono (by decide)) rfl rfl (la_cons (e_var 1) (la_cons (e_var 2) la_nil)) (len_cons (len_cons len_nil)) rfl))
  (ss_cons (s_fldX 0 o_Panel (by simp) (pv 0) (e_var 1))
  (ss_cons (s_fldX 0 o_Panel (by simp) (pv 0) (e_var 2))
  ss_nil))))

abbrev s_check_panel : Stmt := top 38
abbrev N_check_panel : List Str := ["value"]
abbrev p_check_panel : List Str := ["value"]
def m_check_panel : MS := (seqM (ifS (bindM (bindM (bindM (mVar 0) fun d => optM (isC "Panel" d)) fun d => optM (truD d)) fun k => retM !k) (seqM stuckM
  nxM) nxM)
  nxM)
theorem sc_check_panel : FnScope N_check_panel p_check_panel (defScope s_check_panel) := ⟨rfl, rfl, rfl, by decide +kernel, rfl, by decide +kernel, by decide +kernel⟩
theorem x_check_panel {f : Addr} {fd : FuncData} (F : Fun K "check_panel" "check_panel" s_check_panel f fd) (T : TxtJ K mg) (o_Panel : OwnC K mg "Panel" ["switches", "rules"]) : FnOk HW.P HW.w K mg base CX0 1 f fd p_check_panel (spM K mg N_check_panel p_check_panel [] m_check_panel) := by
  refine def_ok (k := 0) F sc_check_panel fun cdv A outer s H E hr => ?_
  have nd := sc_check_panel.nd
  exact (ss_cons (s_if (b_not (b_tru (e_isX o_Panel (e_var 0) rfl T.isinstance rfl))) (ss_cons s_never
  ss_nil) ss_nil)
  ss_nil)

abbrev s_Panel_read : Stmt := inClass (top 37) 1
abbrev N_Panel_read : List Str := ["cls", "text", "head", "rows", "switches", "rules", "row"]
abbrev p_Panel_read : List Str := ["cls", "text"]
def m_Panel_read : MS := (seqM (ifS (orB (bindM (bindM (bindM (mVar 1) fun d => optM (isB "str" d)) fun d => optM (truD d)) fun k => retM !k) (bindM (bindM (mBin swD (mVar 1) (retM k_HEAD)) fun d => optM (truD d)) fun k => retM !k)) (seqM stuckM
  nxM) nxM)
  (seqM (asgM (bindM (mBinO splitD (mVar 1) (retM (.str ("\n" : Str)))) fun o => retM o.d) (starF (consF (setF 2) (consF (setF 3) nilF))))
  (seqM (asgM (bindM (bindM (bindM (mBinO splitD (slM slL (mVar 2) (bindM (bindM (bindM (retM k_HEAD) fun d => bindM (retM []) fun ds => retM (d :: ds)) fun ds => optM (lenD ds)) fun d => optM ((intD d).map some)) (retM none)) (retM (.str (", " : Str)))) fun o => retM o.d) fun d => bindM (retM []) fun ds => retM (d :: ds)) fun ds => optM (tupcD ds)) (setF 4))
  (seqM (asgM (bindM (bindM (bindM (cplL (mVar 3) [6] (setF 6) (retM true) (callD 5 m_read_rule (bindM (mVar 6) fun d => bindM (retM []) fun ds => retM (d :: ds)) [])) fun o => retM o.d) fun d => bindM (retM []) fun ds => retM (d :: ds)) fun ds => optM (tupcD ds)) (setF 5))
  (seqM (seqM (retMS (bindM (mkL 0 3 m_Panel___init__ "Panel" (bindM (mVar 4) fun d => bindM (bindM (mVar 5) fun d => bindM (retM []) fun ds => retM (d :: ds)) fun ds => retM (d :: ds)) []) fun o => retM o.d))
  nxM)
  nxM)))))
theorem sc_Panel_read : FnScope N_Panel_read p_Panel_read (defScope s_Panel_read) := ⟨rfl, rfl, rfl, by decide +kernel, rfl, by decide +kernel, by decide +kernel⟩
theorem x_Panel_read {f : Addr} {fd : FuncData} (F : Fun K "read" "Panel.read" s_Panel_read f fd) (T : TxtJ K mg) (c_HEAD : ConD K mg "HEAD" k_HEAD) (mk0_Panel : MakeX HW.P HW.w K mg base 5 "Panel" N_Panel___init__ p_Panel___init__ [] m_Panel___init__) (mk1_Panel : MakeX HW.P HW.w K mg base 5 "Panel" N_Panel___init__ p_Panel___init__ dd_Panel m_Panel___init__) (d_read_rule : DefX HW.P HW.w K mg base 2 "read_rule" N_read_rule p_read_rule [] m_read_rule) : FnOk HW.P HW.w K mg base CX0 7 f fd p_Panel_read (spM K mg N_Panel_read p_Panel_read [] m_Panel_read) := by
  refine def_ok (k := 6) F sc_Panel_read fun cdv A outer s H E hr => ?_
  have nd := sc_Panel_read.nd
  exact (ss_cons (s_if (b_w (bw_or (b_not (b_tru (e_isB (e_var 1) rfl T.isinstance (pe_bltn rfl T.str (by decide +kernel) rfl)))) (bw_o1 (b_not (b_tru (e_sw (e_var 1) (ConD.dE c_HEAD rfl))))))) (ss_cons s_never
  ss_nil) ss_nil)
  (ss_cons (s_asg (e_frz (o_split (e_var 1) e_str)) (pg_star rfl (pgs_cons (pg_name (i := 2) nd rfl (by first | exact Or.inl rfl | exact Or.inr rfl)) (pgs_cons (pg_name (i := 3) nd rfl (by first | exact Or.inl rfl | exact Or.inr rfl)) pgs_nil))) (tg_star (tg_cons (tg_name (by decide)) (tg_cons (tg_name (by decide)) tg_nil))))
  (ss_cons (s_asg (e_ty call_tupleF cd_tup rfl T.tuple (by decide +kernel) (la_cons (e_frz (o_split (e_slA (e_var 2) (ip_some (e_bi call_len cd_len rfl T.len (by decide +kernel) (la_cons (ConD.dE c_HEAD rfl) la_nil))) ip_none) e_str)) la_nil)) (pg_name (i := 4) nd rfl (by first | exact Or.inl rfl | exact Or.inr rfl)) (tg_name (by decide)))
  (ss_cons (s_asg (e_ty call_tupleF cd_tup rfl T.tuple (by decide +kernel) (la_cons (e_frz (o_lcL (own := [("row", 6)]) (vs := [6]) rfl rfl nd (e_var 3) (blkOk_by (N := N_Panel_read) (sc := defScope s_Panel_read) (by decide +kernel)) (fun _ _ _ _ _ => (pg_name (i := 6) nd rfl (by first | exact Or.inl rfl | exact Or.inr rfl))) (tg_name (by decide)) (tw_name (by decide)) (fun _ _ _ _ _ => pts_0) (fun _ _ _ _ _ => (e_callX d_read_rule (hr.mono (by decide)) rfl rfl (la_cons (e_var 6) la_nil) (len_cons len_nil) rfl)))) la_nil)) (pg_name (i := 5) nd rfl (by first | exact Or.inl rfl | exact Or.inr rfl)) (tg_name (by decide)))
  (ss_cons (s_quiet fun _ _ _ => (ss_cons (s_ret (e_frz (o_makeL 0 mk0_Panel (hr.mono (by decide)) rfl (la_cons (e_var 4) (la_cons (e_var 5) la_nil)) (len_cons (len_cons len_nil)) rfl)))
  ss_nil))
  ss_nil)))))
def r_Panel_read : R := (seqR (ifR (orB (bindM (bindM (bindM (mVar 1) fun d => optM (isB "str" d)) fun d => optM (truD d)) fun k => retM !k) (bindM (bindM (mBin swD (mVar 1) (retM k_HEAD)) fun d => optM (truD d)) fun k => retM !k)) (seqR (raiseR "InvalidText" "value" (mVar 1)) stuckM noR) noR) stuckM noR)
theorem xr_Panel_read {f : Addr} {fd : FuncData} (F : Fun K "read" "Panel.read" s_Panel_read f fd) (T : TxtJ K mg) (c_HEAD : ConD K mg "HEAD" k_HEAD) (mk0_Panel : MakeX HW.P HW.w K mg base 5 "Panel" N_Panel___init__ p_Panel___init__ [] m_Panel___init__) (mk1_Panel : MakeX HW.P HW.w K mg base 5 "Panel" N_Panel___init__ p_Panel___init__ dd_Panel m_Panel___init__) (d_read_rule : DefX HW.P HW.w K mg base 2 "read_rule" N_read_rule p_read_rule [] m_read_rule) (z_InvalidText : ExFX HW.P K mg "InvalidText" "value") : FnOk HW.P HW.w K mg base (L2.CX HW.P HW.w) 7 f fd p_Panel_read (spR K mg N_Panel_read p_Panel_read [] r_Panel_read) := by
  refine def_okR (k := 6) F sc_Panel_read fun cdv A outer s H E hr => ?_
  have nd := sc_Panel_read.nd
  exact (rss_cons (rs_if (b_w (bw_or (b_not (b_tru (e_isB (e_var 1) rfl T.isinstance (pe_bltn rfl T.str (by decide +kernel) rfl)))) (bw_o1 (b_not (b_tru (e_sw (e_var 1) (ConD.dE c_HEAD rfl))))))) (rss_cons (rs_raiseF z_InvalidText fdn_value (hr.mono (by decide)) rfl (e_var 1) rfl) s_never rss_no) rss_no) s_never rss_no)

abbrev s_broken_rules : Stmt := top 40
abbrev N_broken_rules : List Str := ["panel", "setting", "index", "rule"]
abbrev p_broken_rules : List Str := ["panel", "setting"]
def m_broken_rules : MS := (seqM (retMS (bindM (bindM (bindM (lcG (bindM (bindM (mVar 0) fun d => optM (fldD "Panel" "rules" d)) fun d => optM ((seqLs d).map enumD)) [2, 3] (tupF 2 (consF (setF 2) (consF (setF 3) nilF))) (bindM (bindM (callD 5 m_keeps (bindM (bindM (mVar 0) fun d => optM (fldD "Panel" "switches" d)) fun d => bindM (bindM (mVar 1) fun d => bindM (bindM (mVar 3) fun d => bindM (retM []) fun ds => retM (d :: ds)) fun ds => retM (d :: ds)) fun ds => retM (d :: ds)) []) fun d => optM (truD d)) fun k => retM !k) (mVar 2)) fun o => retM o.d) fun d => bindM (retM []) fun ds => retM (d :: ds)) fun ds => optM (tupcD ds)))
  nxM)
theorem sc_broken_rules : FnScope N_broken_rules p_broken_rules (defScope s_broken_rules) := ⟨rfl, rfl, rfl, by decide +kernel, rfl, by decide +kernel, by decide +kernel⟩
theorem x_broken_rules {f : Addr} {fd : FuncData} (F : Fun K "broken_rules" "broken_rules" s_broken_rules f fd) (T : TxtJ K mg) (o_Panel : OwnC K mg "Panel" ["switches", "rules"]) (d_keeps : DefX HW.P HW.w K mg base 3 "keeps" N_keeps p_keeps [] m_keeps) : FnOk HW.P HW.w K mg base CX0 4 f fd p_broken_rules (spM K mg N_broken_rules p_broken_rules [] m_broken_rules) := by
  refine def_ok (k := 3) F sc_broken_rules fun cdv A outer s H E hr => ?_
  have nd := sc_broken_rules.nd
  exact (ss_cons (s_ret (e_ty call_tupleF cd_tup rfl T.tuple (by decide +kernel) (la_cons (e_frz (o_lcG (b := true) (own := [("index", 2), ("rule", 3)]) (vs := [2, 3]) rfl rfl nd (iw_enum (e_fldX o_Panel (by simp) (e_var 0)) rfl T.enumerate) (blkOk_by (N := N_broken_rules) (sc := defScope s_broken_rules) (by decide +kernel)) (fun _ _ _ _ _ => (pg_tup rfl (pgs_cons (pg_name (i := 2) nd rfl (by first | exact Or.inl rfl | exact Or.inr rfl)) (pgs_cons (pg_name (i := 3) nd rfl (by first | exact Or.inl rfl | exact Or.inr rfl)) pgs_nil)))) (tgx_t (tg_cons (tg_name (by decide)) (tg_cons (tg_name (by decide)) tg_nil))) (tm_tup (tm_cons (tm_name (by decide)) (tm_cons (tm_name (by decide)) tm_nil))).w (fun _ _ _ _ _ => pts_1 (b_not (b_tru (e_callX d_keeps (hr.mono (by decide)) rfl rfl (la_cons (e_fldX o_Panel (by simp) (e_var 0)) (la_cons (e_var 1) (la_cons (e_var 3) la_nil))) (len_cons (len_cons (len_cons len_nil))) rfl)))) (fun _ _ _ _ _ => (e_var 2)))) la_nil)))
  ss_nil)

abbrev s_is_good : Stmt := top 44
abbrev N_is_good : List Str := ["panel", "value"]
abbrev p_is_good : List Str := ["panel", "value"]
def m_is_good : MS := (seqM (dropM (callD 1 m_check_panel (bindM (mVar 0) fun d => bindM (retM []) fun ds => retM (d :: ds)) []))
  (seqM (retMS (andV (callD 3 m_is_setting (bindM (bindM (mVar 0) fun d => optM (fldD "Panel" "switches" d)) fun d => bindM (bindM (mVar 1) fun d => bindM (retM []) fun ds => retM (d :: ds)) fun ds => retM (d :: ds)) []) (mBin (eqD false) (bindM (bindM (callD 4 m_broken_rules (bindM (mVar 0) fun d => bindM (bindM (mVar 1) fun d => bindM (retM []) fun ds => retM (d :: ds)) fun ds => retM (d :: ds)) []) fun d => bindM (retM []) fun ds => retM (d :: ds)) fun ds => optM (lenD ds)) (retM (.int 0)))))
  nxM))
theorem sc_is_good : FnScope N_is_good p_is_good (defScope s_is_good) := ⟨rfl, rfl, rfl, by decide +kernel, rfl, by decide +kernel, by decide +kernel⟩
theorem x_is_good {f : Addr} {fd : FuncData} (F : Fun K "is_good" "is_good" s_is_good f fd) (T : TxtJ K mg) (o_Panel : OwnC K mg "Panel" ["switches", "rules"]) (d_check_panel : DefX HW.P HW.w K mg base 1 "check_panel" N_check_panel p_check_panel [] m_check_panel) (d_broken_rules : DefX HW.P HW.w K mg base 4 "broken_rules" N_broken_rules p_broken_rules [] m_broken_rules) (d_is_setting : DefX HW.P HW.w K mg base 1 "is_setting" N_is_setting p_is_setting [] m_is_setting) : FnOk HW.P HW.w K mg base CX0 5 f fd p_is_good (spM K mg N_is_good p_is_good [] m_is_good) := by
  refine def_ok (k := 4) F sc_is_good fun cdv A outer s H E hr => ?_
  have nd := sc_is_good.nd
  exact (ss_cons (s_drop (e_callX d_check_panel (hr.mono (by decide)) rfl rfl (la_cons (e_var 0) la_nil) (len_cons len_nil) rfl))
  (ss_cons (s_ret (e_and (e_callX d_is_setting (hr.mono (by decide)) rfl rfl (la_cons (e_fldX o_Panel (by simp) (e_var 0)) (la_cons (e_var 1) la_nil)) (len_cons (len_cons len_nil)) rfl) (e_1 (e_cmp (op_eqD hr.units) rd_eq (e_bi call_len cd_len rfl T.len (by decide +kernel) (la_cons (e_callX d_broken_rules (hr.mono (by decide)) rfl rfl (la_cons (e_var 0) (la_cons (e_var 1) la_nil)) (len_cons (len_cons len_nil)) rfl) la_nil)) e_int (nobehind _ (by decide) (by decide))))))
  ss_nil))

abbrev s_placed_clauses : Stmt := top 41
abbrev N_placed_clauses : List Str := ["panel", "places", "place", "name", "rule", "sign", "other_name", "other_sign"]
abbrev p_placed_clauses : List Str := ["panel"]
def m_placed_clauses : MS := (seqM (asgO (dcM (bindM (bindM (mVar 0) fun d => optM (fldD "Panel" "switches" d)) fun d => optM ((seqLs d).map enumD)) [2, 3] (tupF 2 (consF (setF 2) (consF (setF 3) nilF))) (retM true) (mVar 3) (mVar 2)) 1)
  (seqM (retMS (bindM (lc2M (bindM (bindM (mVar 0) fun d => optM (fldD "Panel" "rules" d)) fun d => optM (itD d)) [4, 3, 5, 6, 7] (setF 4) (retM true) (bindM (callD 4 m_clauses (bindM (mVar 4) fun d => bindM (retM []) fun ds => retM (d :: ds)) []) fun d => optM (itD d)) [3, 5, 6, 7] (tupF 2 (consF (tupF 2 (consF (setF 3) (consF (setF 5) nilF))) (consF (tupF 2 (consF (setF 6) (consF (setF 7) nilF))) nilF))) (retM true) (bindM (bindM (mBin dixD (frzN 1) (mVar 3)) fun d => bindM (bindM (mVar 5) fun d => bindM (bindM (mBin dixD (frzN 1) (mVar 6)) fun d => bindM (bindM (mVar 7) fun d => bindM (retM []) fun ds => retM (d :: ds)) fun ds => retM (d :: ds)) fun ds => retM (d :: ds)) fun ds => retM (d :: ds)) fun ds => optM (tupM ds))) fun o => retM o.d))
  nxM))
theorem sc_placed_clauses : FnScope N_placed_clauses p_placed_clauses (defScope s_placed_clauses) := ⟨rfl, rfl, rfl, by decide +kernel, rfl, by decide +kernel, by decide +kernel⟩
theorem x_placed_clauses {f : Addr} {fd : FuncData} (F : Fun K "placed_clauses" "placed_clauses" s_placed_clauses f fd) (T : TxtJ K mg) (o_Panel : OwnC K mg "Panel" ["switches", "rules"]) (d_clauses : DefX HW.P HW.w K mg base 2 "clauses" N_clauses p_clauses [] m_clauses) : FnOk HW.P HW.w K mg base CX0 3 f fd p_placed_clauses (spM K mg N_placed_clauses p_placed_clauses [] m_placed_clauses) := by
  refine def_ok (k := 2) F sc_placed_clauses fun cdv A outer s H E hr => ?_
  have nd := sc_placed_clauses.nd
  exact (ss_cons (s_asgO (o_dc (own := [("place", 2), ("name", 3)]) (vs := [2, 3]) rfl rfl nd (iw_enum (e_fldX o_Panel (by simp) (e_var 0)) rfl T.enumerate) (blkOk_by (N := N_placed_clauses) (sc := defScope s_placed_clauses) (by decide +kernel)) (fun _ _ _ _ _ => (pg_tup rfl (pgs_cons (pg_name (i := 2) nd rfl (by first | exact Or.inl rfl | exact Or.inr rfl)) (pgs_cons (pg_name (i := 3) nd rfl (by first | exact Or.inl rfl | exact Or.inr rfl)) pgs_nil)))) (tgx_t (tg_cons (tg_name (by decide)) (tg_cons (tg_name (by decide)) tg_nil))) (tm_tup (tm_cons (tm_name (by decide)) (tm_cons (tm_name (by decide)) tm_nil))).w (fun _ _ _ _ _ => pts_0) (fun _ _ _ _ _ => (e_var 3)) (fun _ _ _ _ _ => (e_var 2))) (pg_name (i := 1) nd rfl (by first | exact Or.inl rfl | exact Or.inr rfl)) (by decide))
  (ss_cons (s_ret (e_frz (o_lc2 (b := false) (b1 := false) (own := [("rule", 4), ("name", 3), ("sign", 5), ("other_name", 6), ("other_sign", 7)]) (vs := [4, 3, 5, 6, 7]) (vs1 := [3, 5, 6, 7]) rfl rfl nd (iw_seq (e_fldX o_Panel (by simp) (e_var 0))) (blkOk_by (N := N_placed_clauses) (sc := defScope s_placed_clauses) (by decide +kernel)) (by decide) (fun _ _ _ _ _ => (pg_name (i := 4) nd rfl (by first | exact Or.inl rfl | exact Or.inr rfl))) (tgx_f (tg_name (by decide))) (tm_name (by decide)).w (fun _ _ _ _ _ => pts_0) (fun _ _ _ _ _ => (iw_seq (e_callX d_clauses (hr.mono (by decide)) rfl rfl (la_cons (e_var 4) la_nil) (len_cons len_nil) rfl))) (fun _ _ _ _ _ => (pg_tup rfl (pgs_cons (pg_tup rfl (pgs_cons (pg_name (i := 3) nd rfl (by first | exact Or.inl rfl | exact Or.inr rfl)) (pgs_cons (pg_name (i := 5) nd rfl (by first | exact Or.inl rfl | exact Or.inr rfl)) pgs_nil))) (pgs_cons (pg_tup rfl (pgs_cons (pg_name (i := 6) nd rfl (by first | exact Or.inl rfl | exact Or.inr rfl)) (pgs_cons (pg_name (i := 7) nd rfl (by first | exact Or.inl rfl | exact Or.inr rfl)) pgs_nil))) pgs_nil)))) (tgx_f (tg_tup (tg_cons (tg_tup (tg_cons (tg_name (by decide)) (tg_cons (tg_name (by decide)) tg_nil))) (tg_cons (tg_tup (tg_cons (tg_name (by decide)) (tg_cons (tg_name (by decide)) tg_nil))) tg_nil)))) (tm_tup (tm_cons (tm_tup (tm_cons (tm_name (by decide)) (tm_cons (tm_name (by decide)) tm_nil))) (tm_cons (tm_tup (tm_cons (tm_name (by decide)) (tm_cons (tm_name (by decide)) tm_nil))) tm_nil))).w (fun _ _ _ _ _ => pts_0) (fun _ _ _ _ _ => (e_tup (la_cons (e_dix (hu_of hr) (e_frzN 1 (pv 1)) (e_var 3)) (la_cons (e_var 5) (la_cons (e_dix (hu_of hr) (e_frzN 1 (pv 1)) (e_var 6)) (la_cons (e_var 7) la_nil)))))))))
  ss_nil))

abbrev s_keeps_placed : Stmt := top 42
abbrev N_keeps_placed : List Str := ["start", "placed", "place", "sign", "other_place", "other_sign"]
abbrev p_keeps_placed : List Str := ["start", "placed"]
def m_keeps_placed : MS := (seqM (retMS (bindM (bindM (bindM (cplL (mVar 1) [2, 3, 4, 5] (tupF 4 (consF (setF 2) (consF (setF 3) (consF (setF 4) (consF (setF 5) nilF))))) (retM true) (orV (mBin (eqD false) (mBin atD (mVar 0) (mVar 2)) (mVar 3)) (mBin (eqD false) (mBin atD (mVar 0) (mVar 4)) (mVar 5)))) fun o => retM o.d) fun d => bindM (retM []) fun ds => retM (d :: ds)) fun ds => optM (allD ds)))
  nxM)
theorem sc_keeps_placed : FnScope N_keeps_placed p_keeps_placed (defScope s_keeps_placed) := ⟨rfl, rfl, rfl, by decide +kernel, rfl, by decide +kernel, by decide +kernel⟩
theorem x_keeps_placed {f : Addr} {fd : FuncData} (F : Fun K "keeps_placed" "keeps_placed" s_keeps_placed f fd) (T : TxtJ K mg)  : FnOk HW.P HW.w K mg base CX0 1 f fd p_keeps_placed (spM K mg N_keeps_placed p_keeps_placed [] m_keeps_placed) := by
  refine def_ok (k := 0) F sc_keeps_placed fun cdv A outer s H E hr => ?_
  have nd := sc_keeps_placed.nd
  exact (ss_cons (s_ret (e_bi (cr_all rfl) cd_all rfl T.all (by decide +kernel) (la_cons (e_frz (o_lcL (own := [("place", 2), ("sign", 3), ("other_place", 4), ("other_sign", 5)]) (vs := [2, 3, 4, 5]) rfl rfl nd (e_var 1) (blkOk_by (N := N_keeps_placed) (sc := defScope s_keeps_placed) (by decide +kernel)) (fun _ _ _ _ _ => (pg_tup rfl (pgs_cons (pg_name (i := 2) nd rfl (by first | exact Or.inl rfl | exact Or.inr rfl)) (pgs_cons (pg_name (i := 3) nd rfl (by first | exact Or.inl rfl | exact Or.inr rfl)) (pgs_cons (pg_name (i := 4) nd rfl (by first | exact Or.inl rfl | exact Or.inr rfl)) (pgs_cons (pg_name (i := 5) nd rfl (by first | exact Or.inl rfl | exact Or.inr rfl)) pgs_nil)))))) (tg_tup (tg_cons (tg_name (by decide)) (tg_cons (tg_name (by decide)) (tg_cons (tg_name (by decide)) (tg_cons (tg_name (by decide)) tg_nil))))) (tm_tup (tm_cons (tm_name (by decide)) (tm_cons (tm_name (by decide)) (tm_cons (tm_name (by decide)) (tm_cons (tm_name (by decide)) tm_nil))))).w (fun _ _ _ _ _ => pts_0) (fun _ _ _ _ _ => (e_or (e_cmp (op_eqD hr.units) rd_eq (e_ix (e_var 0) (e_var 2)) (e_var 3) (nobehind _ (by decide) (by decide))) (e_1 (e_cmp (op_eqD hr.units) rd_eq (e_ix (e_var 0) (e_var 4)) (e_var 5) (nobehind _ (by decide) (by decide)))))))) la_nil)))
  ss_nil)

abbrev s_settings : Stmt := top 43
abbrev N_settings : List Str := ["panel", "placed", "starts", "place", "ready", "longer", "clause", "start", "sign"]
abbrev p_settings : List Str := ["panel"]
def m_settings : MS := (seqM (dropM (callD 1 m_check_panel (bindM (mVar 0) fun d => bindM (retM []) fun ds => retM (d :: ds)) []))
  (seqM (asgM (callD 8 m_placed_clauses (bindM (mVar 0) fun d => bindM (retM []) fun ds => retM (d :: ds)) []) (setF 1))
  (seqM (asgO (bindM (bindM (retM (.str ("" : Str))) fun d => bindM (retM []) fun ds => retM (d :: ds)) fun ds => optM (lstM ds)) 2)
  (seqM (forR (bindM (bindM (bindM (bindM (mVar 0) fun d => optM (fldD "Panel" "switches" d)) fun d => bindM (retM []) fun ds => retM (d :: ds)) fun ds => optM (lenD ds)) fun d => bindM (retM []) fun ds => retM (d :: ds)) rng1 (setF 3)
  (seqM (asgO (cplL (mVar 1) [6] (setF 6) (bindM (mBin (eqD false) (bindM (bindM (mBin atD (mVar 6) (retM (.int 0))) fun d => bindM (bindM (mBin atD (mVar 6) (retM (.int 2))) fun d => bindM (retM []) fun ds => retM (d :: ds)) fun ds => retM (d :: ds)) fun ds => optM (maxD ds)) (mVar 3)) fun d => optM (blD d)) (mVar 6)) 4)
  (seqM (asgO (lc2M (bindM (frzN 2) fun d => optM (itD d)) [7, 8] (setF 7) (retM true) (bindM (retM k_SIGNS) fun d => optM (itD d)) [8] (setF 8) (retM true) (mBin addL (mVar 7) (mVar 8))) 5)
  (seqM (asgO (cplL (frzN 5) [7] (setF 7) (bindM (callD 6 m_keeps_placed (bindM (mVar 7) fun d => bindM (bindM (frzN 4) fun d => bindM (retM []) fun ds => retM (d :: ds)) fun ds => retM (d :: ds)) []) fun d => optM (truD d)) (mVar 7)) 2)
  nxM))))
  (seqM (retMS (bindM (bindM (frzN 2) fun d => bindM (retM []) fun ds => retM (d :: ds)) fun ds => optM (tupcD ds)))
  nxM)))))
theorem sc_settings : FnScope N_settings p_settings (defScope s_settings) := ⟨rfl, rfl, rfl, by decide +kernel, rfl, by decide +kernel, by decide +kernel⟩
theorem x_settings {f : Addr} {fd : FuncData} (F : Fun K "settings" "settings" s_settings f fd) (T : TxtJ K mg) (c_SIGNS : ConD K mg "SIGNS" k_SIGNS) (o_Panel : OwnC K mg "Panel" ["switches", "rules"]) (d_check_panel : DefX HW.P HW.w K mg base 1 "check_panel" N_check_panel p_check_panel [] m_check_panel) (d_placed_clauses : DefX HW.P HW.w K mg base 3 "placed_clauses" N_placed_clauses p_placed_clauses [] m_placed_clauses) (d_keeps_placed : DefX HW.P HW.w K mg base 1 "keeps_placed" N_keeps_placed p_keeps_placed [] m_keeps_placed) : FnOk HW.P HW.w K mg base CX0 4 f fd p_settings (spM K mg N_settings p_settings [] m_settings) := by
  refine def_ok (k := 3) F sc_settings fun cdv A outer s H E hr => ?_
  have nd := sc_settings.nd
  exact (ss_cons (s_drop (e_callX d_check_panel (hr.mono (by decide)) rfl rfl (la_cons (e_var 0) la_nil) (len_cons len_nil) rfl))
  (ss_cons (s_asg (e_callX d_placed_clauses (hr.mono (by decide)) rfl rfl (la_cons (e_var 0) la_nil) (len_cons len_nil) rfl) (pg_name (i := 1) nd rfl (by first | exact Or.inl rfl | exact Or.inr rfl)) (tg_name (by decide)))
  (ss_cons (s_asgO (o_lst (la_cons e_str la_nil)) (pg_name (i := 2) nd rfl (by first | exact Or.inl rfl | exact Or.inr rfl)) (by decide))
  (ss_cons (s_for1 (la_cons (e_bi call_len cd_len rfl T.len (by decide +kernel) (la_cons (e_fldX o_Panel (by simp) (e_var 0)) la_nil)) la_nil) rfl T.range (pg_name (i := 3) nd rfl (by first | exact Or.inl rfl | exact Or.inr rfl)) (tg_name (by decide))
  (ss_cons (s_asgO (o_lcL (own := [("clause", 6)]) (vs := [6]) rfl rfl nd (e_var 1) (blkOk_by (N := N_settings) (sc := defScope s_settings) (by decide +kernel)) (fun _ _ _ _ _ => (pg_name (i := 6) nd rfl (by first | exact Or.inl rfl | exact Or.inr rfl))) (tg_name (by decide)) (tw_name (by decide)) (fun _ _ _ _ _ => pts_1 (b_cmp (op_eqD hr.units) rd_eq (e_bi (call_max2 rfl) cd_max rfl T.max (by decide +kernel) (la_cons (e_ix (e_var 6) e_int) (la_cons (e_ix (e_var 6) e_int) la_nil))) (e_var 3) (nobehind _ (by decide) (by decide)))) (fun _ _ _ _ _ => (e_var 6))) (pg_name (i := 4) nd rfl (by first | exact Or.inl rfl | exact Or.inr rfl)) (by decide))
  (ss_cons (s_setLc2 (b := false) (b1 := false) (own := [("start", 7), ("sign", 8)]) (vs := [7, 8]) (vs1 := [8]) rfl rfl nd (iw_seq (e_frzN 2 (pv 2))) (blkOk_by (N := N_settings) (sc := defScope s_settings) (by decide +kernel)) (by decide) (fun _ _ _ _ _ => (pg_name (i := 7) nd rfl (by first | exact Or.inl rfl | exact Or.inr rfl))) (tgx_f (tg_name (by decide))) (tm_name (by decide)).w (fun _ _ _ _ _ => pts_0) (fun _ _ _ _ _ => (iw_seq (ConD.dE c_SIGNS rfl))) (fun _ _ _ _ _ => (pg_name (i := 8) nd rfl (by first | exact Or.inl rfl | exact Or.inr rfl))) (tgx_f (tg_name (by decide))) (tm_name (by decide)).w (fun _ _ _ _ _ => pts_0) (fun _ _ _ _ _ => (e_op op_addL rd_addL (e_var 7) (e_var 8))) rfl rfl (by decide))
  (ss_cons (s_setLcL (own := [("start", 7)]) (vs := [7]) rfl rfl nd (e_frzN 5 (pv 5)) (blkOk_by (N := N_settings) (sc := defScope s_settings) (by decide +kernel)) (fun _ _ _ _ _ => (pg_name (i := 7) nd rfl (by first | exact Or.inl rfl | exact Or.inr rfl))) (tg_name (by decide)) (tw_name (by decide)) (fun _ _ _ _ _ => pts_1 (b_tru (e_callX d_keeps_placed (hr.mono (by decide)) rfl rfl (la_cons (e_var 7) (la_cons (e_frzN 4 (pv 4)) la_nil)) (len_cons (len_cons len_nil)) rfl))) (fun _ _ _ _ _ => (e_var 7)) rfl rfl (by decide))
  ss_nil))) rfl PassesOwn.never)
  (ss_cons (s_ret (e_ty call_tupleF cd_tup rfl T.tuple (by decide +kernel) (la_cons (e_frzN 2 (pv 2)) la_nil)))
  ss_nil)))))

abbrev s_rule_steps : Stmt := top 46
abbrev N_rule_steps : List Str := ["rule", "pair", "one", "other"]
abbrev p_rule_steps : List Str := ["rule"]
def m_rule_steps : MS := (seqM (retMS (bindM (lc2M (bindM (callD 4 m_clauses (bindM (mVar 0) fun d => bindM (retM []) fun ds => retM (d :: ds)) []) fun d => optM (itD d)) [2, 3, 1] (tupF 2 (consF (setF 2) (consF (setF 3) nilF))) (retM true) (bindM (bindM (bindM (bindM (bindM (callD 3 m_opposite (bindM (mVar 2) fun d => bindM (retM []) fun ds => retM (d :: ds)) []) fun d => bindM (bindM (mVar 3) fun d => bindM (retM []) fun ds => retM (d :: ds)) fun ds => retM (d :: ds)) fun ds => optM (tupM ds)) fun d => bindM (bindM (bindM (bindM (callD 3 m_opposite (bindM (mVar 3) fun d => bindM (retM []) fun ds => retM (d :: ds)) []) fun d => bindM (bindM (mVar 2) fun d => bindM (retM []) fun ds => retM (d :: ds)) fun ds => retM (d :: ds)) fun ds => optM (tupM ds)) fun d => bindM (retM []) fun ds => retM (d :: ds)) fun ds => retM (d :: ds)) fun ds => optM (tupM ds)) fun d => optM (itD d)) [1] (setF 1) (retM true) (mVar 1)) fun o => retM o.d))
  nxM)
theorem sc_rule_steps : FnScope N_rule_steps p_rule_steps (defScope s_rule_steps) := ⟨rfl, rfl, rfl, by decide +kernel, rfl, by decide +kernel, by decide +kernel⟩
theorem x_rule_steps {f : Addr} {fd : FuncData} (F : Fun K "rule_steps" "rule_steps" s_rule_steps f fd) (T : TxtJ K mg) (d_clauses : DefX HW.P HW.w K mg base 2 "clauses" N_clauses p_clauses [] m_clauses) (d_opposite : DefX HW.P HW.w K mg base 1 "opposite" N_opposite p_opposite [] m_opposite) : FnOk HW.P HW.w K mg base CX0 3 f fd p_rule_steps (spM K mg N_rule_steps p_rule_steps [] m_rule_steps) := by
  refine def_ok (k := 2) F sc_rule_steps fun cdv A outer s H E hr => ?_
  have nd := sc_rule_steps.nd
  exact (ss_cons (s_ret (e_frz (o_lc2 (b := false) (b1 := false) (own := [("one", 2), ("other", 3), ("pair", 1)]) (vs := [2, 3, 1]) (vs1 := [1]) rfl rfl nd (iw_seq (e_callX d_clauses (hr.mono (by decide)) rfl rfl (la_cons (e_var 0) la_nil) (len_cons len_nil) rfl)) (blkOk_by (N := N_rule_steps) (sc := defScope s_rule_steps) (by decide +kernel)) (by decide) (fun _ _ _ _ _ => (pg_tup rfl (pgs_cons (pg_name (i := 2) nd rfl (by first | exact Or.inl rfl | exact Or.inr rfl)) (pgs_cons (pg_name (i := 3) nd rfl (by first | exact Or.inl rfl | exact Or.inr rfl)) pgs_nil)))) (tgx_f (tg_tup (tg_cons (tg_name (by decide)) (tg_cons (tg_name (by decide)) tg_nil)))) (tm_tup (tm_cons (tm_name (by decide)) (tm_cons (tm_name (by decide)) tm_nil))).w (fun _ _ _ _ _ => pts_0) (fun _ _ _ _ _ => (iw_seq (e_tup (la_cons (e_tup (la_cons (e_callX d_opposite (hr.mono (by decide)) rfl rfl (la_cons (e_var 2) la_nil) (len_cons len_nil) rfl) (la_cons (e_var 3) la_nil))) (la_cons (e_tup (la_cons (e_callX d_opposite (hr.mono (by decide)) rfl rfl (la_cons (e_var 3) la_nil) (len_cons len_nil) rfl) (la_cons (e_var 2) la_nil))) la_nil))))) (fun _ _ _ _ _ => (pg_name (i := 1) nd rfl (by first | exact Or.inl rfl | exact Or.inr rfl))) (tgx_f (tg_name (by decide))) (tm_name (by decide)).w (fun _ _ _ _ _ => pts_0) (fun _ _ _ _ _ => (e_var 1)))))
  ss_nil)

abbrev s_sign_of : Stmt := top 48
abbrev N_sign_of : List Str := ["panel", "setting", "switch"]
abbrev p_sign_of : List Str := ["panel", "setting", "switch"]
def m_sign_of : MS := (seqM (retMS (mBin atD (mVar 1) (mBin tixD (bindM (mVar 0) fun d => optM (fldD "Panel" "switches" d)) (mVar 2))))
  nxM)
theorem sc_sign_of : FnScope N_sign_of p_sign_of (defScope s_sign_of) := ⟨rfl, rfl, rfl, by decide +kernel, rfl, by decide +kernel, by decide +kernel⟩
theorem x_sign_of {f : Addr} {fd : FuncData} (F : Fun K "sign_of" "sign_of" s_sign_of f fd) (T : TxtJ K mg) (o_Panel : OwnC K mg "Panel" ["switches", "rules"]) : FnOk HW.P HW.w K mg base CX0 1 f fd p_sign_of (spM K mg N_sign_of p_sign_of [] m_sign_of) := by
  refine def_ok (k := 0) F sc_sign_of fun cdv A outer s H E hr => ?_
  have nd := sc_sign_of.nd
  exact (ss_cons (s_ret (e_ix (e_var 1) (e_tix (e_fldX o_Panel (by simp) (e_var 0)) (e_var 2))))
  ss_nil)

abbrev s_unlike : Stmt := top 49
abbrev N_unlike : List Str := ["panel", "first", "second", "name"]
abbrev p_unlike : List Str := ["panel", "first", "second"]
def m_unlike : MS := (seqM (retMS (bindM (cplL (bindM (mVar 0) fun d => optM (fldD "Panel" "switches" d)) [3] (setF 3) (bindM (mBin (eqD true) (callD 3 m_sign_of (bindM (mVar 0) fun d => bindM (bindM (mVar 1) fun d => bindM (bindM (mVar 3) fun d => bindM (retM []) fun ds => retM (d :: ds)) fun ds => retM (d :: ds)) fun ds => retM (d :: ds)) []) (callD 3 m_sign_of (bindM (mVar 0) fun d => bindM (bindM (mVar 2) fun d => bindM (bindM (mVar 3) fun d => bindM (retM []) fun ds => retM (d :: ds)) fun ds => retM (d :: ds)) fun ds => retM (d :: ds)) [])) fun d => optM (blD d)) (mVar 3)) fun o => retM o.d))
  nxM)
theorem sc_unlike : FnScope N_unlike p_unlike (defScope s_unlike) := ⟨rfl, rfl, rfl, by decide +kernel, rfl, by decide +kernel, by decide +kernel⟩
theorem x_unlike {f : Addr} {fd : FuncData} (F : Fun K "unlike" "unlike" s_unlike f fd) (T : TxtJ K mg) (o_Panel : OwnC K mg "Panel" ["switches", "rules"]) (d_sign_of : DefX HW.P HW.w K mg base 1 "sign_of" N_sign_of p_sign_of [] m_sign_of) : FnOk HW.P HW.w K mg base CX0 2 f fd p_unlike (spM K mg N_unlike p_unlike [] m_unlike) := by
  refine def_ok (k := 1) F sc_unlike fun cdv A outer s H E hr => ?_
  have nd := sc_unlike.nd
  exact (ss_cons (s_ret (e_frz (o_lcL (own := [("name", 3)]) (vs := [3]) rfl rfl nd (e_fldX o_Panel (by simp) (e_var 0)) (blkOk_by (N := N_unlike) (sc := defScope s_unlike) (by decide +kernel)) (fun _ _ _ _ _ => (pg_name (i := 3) nd rfl (by first | exact Or.inl rfl | exact Or.inr rfl))) (tg_name (by decide)) (tw_name (by decide)) (fun _ _ _ _ _ => pts_1 (b_cmp (op_neD hr.units) rd_ne (e_callX d_sign_of (hr.mono (by decide)) rfl rfl (la_cons (e_var 0) (la_cons (e_var 1) (la_cons (e_var 3) la_nil))) (len_cons (len_cons (len_cons len_nil))) rfl) (e_callX d_sign_of (hr.mono (by decide)) rfl rfl (la_cons (e_var 0) (la_cons (e_var 2) (la_cons (e_var 3) la_nil))) (len_cons (len_cons (len_cons len_nil))) rfl) (nobehind _ (by decide) (by decide)))) (fun _ _ _ _ _ => (e_var 3)))))
  ss_nil)

abbrev s_flipped : Stmt := top 50
abbrev N_flipped : List Str := ["panel", "setting", "switch", "place", "sign"]
abbrev p_flipped : List Str := ["panel", "setting", "switch"]
def m_flipped : MS := (seqM (asgM (mBin tixD (bindM (mVar 0) fun d => optM (fldD "Panel" "switches" d)) (mVar 2)) (setF 3))
  (seqM (asgM (ifM (bindM (mBin (eqD false) (mBin atD (mVar 1) (mVar 3)) (retM (.str ("+" : Str)))) fun d => optM (blD d)) (retM (.str ("-" : Str))) (retM (.str ("+" : Str)))) (setF 4))
  (seqM (retMS (mBin addL (mBin addL (slM slL (mVar 1) (retM none) (bindM (mVar 3) fun d => optM ((intD d).map some))) (mVar 4)) (slM slL (mVar 1) (bindM (mBin addL (mVar 3) (retM (.int 1))) fun d => optM ((intD d).map some)) (retM none))))
  nxM)))
theorem sc_flipped : FnScope N_flipped p_flipped (defScope s_flipped) := ⟨rfl, rfl, rfl, by decide +kernel, rfl, by decide +kernel, by decide +kernel⟩
theorem x_flipped {f : Addr} {fd : FuncData} (F : Fun K "flipped" "flipped" s_flipped f fd) (T : TxtJ K mg) (o_Panel : OwnC K mg "Panel" ["switches", "rules"]) : FnOk HW.P HW.w K mg base CX0 1 f fd p_flipped (spM K mg N_flipped p_flipped [] m_flipped) := by
  refine def_ok (k := 0) F sc_flipped fun cdv A outer s H E hr => ?_
  have nd := sc_flipped.nd
  exact (ss_cons (s_asg (e_tix (e_fldX o_Panel (by simp) (e_var 0)) (e_var 2)) (pg_name (i := 3) nd rfl (by first | exact Or.inl rfl | exact Or.inr rfl)) (tg_name (by decide)))
  (ss_cons (s_asg (e_if (b_cmp (op_eqD hr.units) rd_eq (e_ix (e_var 1) (e_var 3)) e_str (nobehind _ (by decide) (by decide))) e_str e_str) (pg_name (i := 4) nd rfl (by first | exact Or.inl rfl | exact Or.inr rfl)) (tg_name (by decide)))
  (ss_cons (s_ret (e_op op_addL rd_addL (e_op op_addL rd_addL (e_slA (e_var 1) ip_none (ip_some (e_var 3))) (e_var 4)) (e_slA (e_var 1) (ip_some (e_op op_addL rd_addL (e_var 3) e_int)) ip_none)))
  ss_nil)))

abbrev s_check_wished : Stmt := top 52
abbrev N_check_wished : List Str := ["panel", "wished", "index", "literal"]
abbrev p_check_wished : List Str := ["panel", "wished"]
def m_check_wished : MS := (seqM (ifS (bindM (bindM (bindM (mVar 1) fun d => optM (isB "tuple" d)) fun d => optM (truD d)) fun k => retM !k) (seqM stuckM
  nxM) nxM)
  (seqM (forE (mVar 1) (consF (setF 2) (consF (setF 3) nilF))
  (seqM (ifS (orB (bindM (mBin (cmpD fun i j => decide (j ≤ i)) (mVar 2) (retM k_MOST_WISHED)) fun d => optM (blD d)) (bindM (bindM (callD 2 m_is_literal (bindM (bindM (mVar 0) fun d => optM (fldD "Panel" "switches" d)) fun d => bindM (bindM (mVar 3) fun d => bindM (retM []) fun ds => retM (d :: ds)) fun ds => retM (d :: ds)) []) fun d => optM (truD d)) fun k => retM !k)) (seqM stuckM
  nxM) nxM)
  nxM))
  nxM))
theorem sc_check_wished : FnScope N_check_wished p_check_wished (defScope s_check_wished) := ⟨rfl, rfl, rfl, by decide +kernel, rfl, by decide +kernel, by decide +kernel⟩
theorem x_check_wished {f : Addr} {fd : FuncData} (F : Fun K "check_wished" "check_wished" s_check_wished f fd) (T : TxtJ K mg) (c_MOST_WISHED : ConD K mg "MOST_WISHED" k_MOST_WISHED) (o_Panel : OwnC K mg "Panel" ["switches", "rules"]) (d_is_literal : DefX HW.P HW.w K mg base 2 "is_literal" N_is_literal p_is_literal [] m_is_literal) : FnOk HW.P HW.w K mg base CX0 3 f fd p_check_wished (spM K mg N_check_wished p_check_wished [] m_check_wished) := by
  refine def_ok (k := 2) F sc_check_wished fun cdv A outer s H E hr => ?_
  have nd := sc_check_wished.nd
  exact (ss_cons (s_if (b_not (b_tru (e_isB (e_var 1) rfl T.isinstance (pe_bltn rfl T.tuple (by decide +kernel) rfl)))) (ss_cons s_never
  ss_nil) ss_nil)
  (ss_cons (s_forE (e_var 1) rfl T.enumerate (pg_tup rfl (pgs_cons (pg_name (i := 2) nd rfl (by first | exact Or.inl rfl | exact Or.inr rfl)) (pgs_cons (pg_name (i := 3) nd rfl (by first | exact Or.inl rfl | exact Or.inr rfl)) pgs_nil))) (tg_cons (tg_name (by decide)) (tg_cons (tg_name (by decide)) tg_nil))
  (ss_cons (s_if (b_w (bw_or (b_cmp op_ge rd_cmp (e_var 2) (ConD.dE c_MOST_WISHED rfl) (nobehind _ (by decide) (by decide))) (bw_o1 (b_not (b_tru (e_callX d_is_literal (hr.mono (by decide)) rfl rfl (la_cons (e_fldX o_Panel (by simp) (e_var 0)) (la_cons (e_var 3) la_nil)) (len_cons (len_cons len_nil)) rfl)))))) (ss_cons s_never
  ss_nil) ss_nil)
  ss_nil) rfl PassesOwn.never)
  ss_nil))
def r_check_wished : R := (seqR (ifR (bindM (bindM (bindM (mVar 1) fun d => optM (isB "tuple" d)) fun d => optM (truD d)) fun k => retM !k) (seqR (raiseR "InvalidLiterals" "index" (retM .non)) stuckM noR) noR) (ifS (bindM (bindM (bindM (mVar 1) fun d => optM (isB "tuple" d)) fun d => optM (truD d)) fun k => retM !k) (seqM stuckM
  nxM) nxM) (seqR (forER (mVar 1) (consF (setF 2) (consF (setF 3) nilF))
  (seqM (ifS (orB (bindM (mBin (cmpD fun i j => decide (j ≤ i)) (mVar 2) (retM k_MOST_WISHED)) fun d => optM (blD d)) (bindM (bindM (callD 2 m_is_literal (bindM (bindM (mVar 0) fun d => optM (fldD "Panel" "switches" d)) fun d => bindM (bindM (mVar 3) fun d => bindM (retM []) fun ds => retM (d :: ds)) fun ds => retM (d :: ds)) []) fun d => optM (truD d)) fun k => retM !k)) (seqM stuckM
  nxM) nxM)
  nxM) (seqR (ifR (orB (bindM (mBin (cmpD fun i j => decide (j ≤ i)) (mVar 2) (retM k_MOST_WISHED)) fun d => optM (blD d)) (bindM (bindM (callD 2 m_is_literal (bindM (bindM (mVar 0) fun d => optM (fldD "Panel" "switches" d)) fun d => bindM (bindM (mVar 3) fun d => bindM (retM []) fun ds => retM (d :: ds)) fun ds => retM (d :: ds)) []) fun d => optM (truD d)) fun k => retM !k)) (seqR (raiseR "InvalidLiterals" "index" (mVar 2)) stuckM noR) noR) (ifS (orB (bindM (mBin (cmpD fun i j => decide (j ≤ i)) (mVar 2) (retM k_MOST_WISHED)) fun d => optM (blD d)) (bindM (bindM (callD 2 m_is_literal (bindM (bindM (mVar 0) fun d => optM (fldD "Panel" "switches" d)) fun d => bindM (bindM (mVar 3) fun d => bindM (retM []) fun ds => retM (d :: ds)) fun ds => retM (d :: ds)) []) fun d => optM (truD d)) fun k => retM !k)) (seqM stuckM
  nxM) nxM) noR)) (forE (mVar 1) (consF (setF 2) (consF (setF 3) nilF))
  (seqM (ifS (orB (bindM (mBin (cmpD fun i j => decide (j ≤ i)) (mVar 2) (retM k_MOST_WISHED)) fun d => optM (blD d)) (bindM (bindM (callD 2 m_is_literal (bindM (bindM (mVar 0) fun d => optM (fldD "Panel" "switches" d)) fun d => bindM (bindM (mVar 3) fun d => bindM (retM []) fun ds => retM (d :: ds)) fun ds => retM (d :: ds)) []) fun d => optM (truD d)) fun k => retM !k)) (seqM stuckM
  nxM) nxM)
  nxM)) noR))
theorem xr_check_wished {f : Addr} {fd : FuncData} (F : Fun K "check_wished" "check_wished" s_check_wished f fd) (T : TxtJ K mg) (c_MOST_WISHED : ConD K mg "MOST_WISHED" k_MOST_WISHED) (o_Panel : OwnC K mg "Panel" ["switches", "rules"]) (d_is_literal : DefX HW.P HW.w K mg base 2 "is_literal" N_is_literal p_is_literal [] m_is_literal) (z_InvalidLiterals : ExFX HW.P K mg "InvalidLiterals" "index") : FnOk HW.P HW.w K mg base (L2.CX HW.P HW.w) 3 f fd p_check_wished (spR K mg N_check_wished p_check_wished [] r_check_wished) := by
  refine def_okR (k := 2) F sc_check_wished fun cdv A outer s H E hr => ?_
  have nd := sc_check_wished.nd
  exact (rss_cons (rs_if (b_not (b_tru (e_isB (e_var 1) rfl T.isinstance (pe_bltn rfl T.tuple (by decide +kernel) rfl)))) (rss_cons (rs_raiseF z_InvalidLiterals fdn_index (hr.mono (by decide)) rfl e_non rfl) s_never rss_no) rss_no) (s_if (b_not (b_tru (e_isB (e_var 1) rfl T.isinstance (pe_bltn rfl T.tuple (by decide +kernel) rfl)))) (ss_cons s_never
  ss_nil) ss_nil) (rss_cons (rs_forE (e_var 1) rfl T.enumerate (pg_tup rfl (pgs_cons (pg_name (i := 2) nd rfl (by first | exact Or.inl rfl | exact Or.inr rfl)) (pgs_cons (pg_name (i := 3) nd rfl (by first | exact Or.inl rfl | exact Or.inr rfl)) pgs_nil))) (tg_cons (tg_name (by decide)) (tg_cons (tg_name (by decide)) tg_nil))
  (ss_cons (s_if (b_w (bw_or (b_cmp op_ge rd_cmp (e_var 2) (ConD.dE c_MOST_WISHED rfl) (nobehind _ (by decide) (by decide))) (bw_o1 (b_not (b_tru (e_callX d_is_literal (hr.mono (by decide)) rfl rfl (la_cons (e_fldX o_Panel (by simp) (e_var 0)) (la_cons (e_var 3) la_nil)) (len_cons (len_cons len_nil)) rfl)))))) (ss_cons s_never
  ss_nil) ss_nil)
  ss_nil) (rss_cons (rs_if (b_w (bw_or (b_cmp op_ge rd_cmp (e_var 2) (ConD.dE c_MOST_WISHED rfl) (nobehind _ (by decide) (by decide))) (bw_o1 (b_not (b_tru (e_callX d_is_literal (hr.mono (by decide)) rfl rfl (la_cons (e_fldX o_Panel (by simp) (e_var 0)) (la_cons (e_var 3) la_nil)) (len_cons (len_cons len_nil)) rfl)))))) (rss_cons (rs_raiseF z_InvalidLiterals fdn_index (hr.mono (by decide)) rfl (e_var 2) rfl) s_never rss_no) rss_no) (s_if (b_w (bw_or (b_cmp op_ge rd_cmp (e_var 2) (ConD.dE c_MOST_WISHED rfl) (nobehind _ (by decide) (by decide))) (bw_o1 (b_not (b_tru (e_callX d_is_literal (hr.mono (by decide)) rfl rfl (la_cons (e_fldX o_Panel (by simp) (e_var 0)) (la_cons (e_var 3) la_nil)) (len_cons (len_cons len_nil)) rfl)))))) (ss_cons s_never
  ss_nil) ss_nil) rss_no) rfl PassesOwn.leaving) (s_forE (e_var 1) rfl T.enumerate (pg_tup rfl (pgs_cons (pg_name (i := 2) nd rfl (by first | exact Or.inl rfl | exact Or.inr rfl)) (pgs_cons (pg_name (i := 3) nd rfl (by first | exact Or.inl rfl | exact Or.inr rfl)) pgs_nil))) (tg_cons (tg_name (by decide)) (tg_cons (tg_name (by decide)) tg_nil))
  (ss_cons (s_if (b_w (bw_or (b_cmp op_ge rd_cmp (e_var 2) (ConD.dE c_MOST_WISHED rfl) (nobehind _ (by decide) (by decide))) (bw_o1 (b_not (b_tru (e_callX d_is_literal (hr.mono (by decide)) rfl rfl (la_cons (e_fldX o_Panel (by simp) (e_var 0)) (la_cons (e_var 3) la_nil)) (len_cons (len_cons len_nil)) rfl)))))) (ss_cons s_never
  ss_nil) ss_nil)
  ss_nil) rfl PassesOwn.never) rss_no))

abbrev s_is_tuple_of : Stmt := top 54
abbrev N_is_tuple_of : List Str := ["value", "many"]
abbrev p_is_tuple_of : List Str := ["value", "many"]
def m_is_tuple_of : MS := (seqM (retMS (andV (bindM (mVar 0) fun d => optM (isB "tuple" d)) (mBin (eqD false) (bindM (bindM (mVar 0) fun d => bindM (retM []) fun ds => retM (d :: ds)) fun ds => optM (lenD ds)) (mVar 1))))
  nxM)
theorem sc_is_tuple_of : FnScope N_is_tuple_of p_is_tuple_of (defScope s_is_tuple_of) := ⟨rfl, rfl, rfl, by decide +kernel, rfl, by decide +kernel, by decide +kernel⟩
theorem x_is_tuple_of {f : Addr} {fd : FuncData} (F : Fun K "is_tuple_of" "is_tuple_of" s_is_tuple_of f fd) (T : TxtJ K mg)  : FnOk HW.P HW.w K mg base CX0 1 f fd p_is_tuple_of (spM K mg N_is_tuple_of p_is_tuple_of [] m_is_tuple_of) := by
  refine def_ok (k := 0) F sc_is_tuple_of fun cdv A outer s H E hr => ?_
  have nd := sc_is_tuple_of.nd
  exact (ss_cons (s_ret (e_and (e_isB (e_var 0) rfl T.isinstance (pe_bltn rfl T.tuple (by decide +kernel) rfl)) (e_1 (e_cmp (op_eqD hr.units) rd_eq (e_bi call_len cd_len rfl T.len (by decide +kernel) (la_cons (e_var 0) la_nil)) (e_var 1) (nobehind _ (by decide) (by decide))))))
  ss_nil)

abbrev s_panel_of : Stmt := top 55
abbrev N_panel_of : List Str := ["text"]
abbrev p_panel_of : List Str := ["text"]
def m_panel_of : MS := (seqM (tryM1 "InvalidText" (seqR (rcall 7 r_Panel_read (bindM (bindM (mVar 0) fun d => bindM (retM []) fun ds => retM (d :: ds)) fun ds => retM (.cls "Panel" :: ds))) (retMS (bindM (bindM (mVar 0) fun d => bindM (retM []) fun ds => retM (d :: ds)) fun ds => optM (ownM 7 m_Panel_read (.cls "Panel" :: ds)))) noR)
  (seqM (retMS (bindM (bindM (mVar 0) fun d => bindM (retM []) fun ds => retM (d :: ds)) fun ds => optM (ownM 7 m_Panel_read (.cls "Panel" :: ds))))
  nxM) (seqM (retMS (retM .non))
  nxM))
  nxM)
theorem sc_panel_of : FnScope N_panel_of p_panel_of (defScope s_panel_of) := ⟨rfl, rfl, rfl, by decide +kernel, rfl, by decide +kernel, by decide +kernel⟩
theorem x_panel_of {f : Addr} {fd : FuncData} (F : Fun K "panel_of" "panel_of" s_panel_of f fd) (T : TxtJ K mg) (d_Panel_read : CmX HW.P HW.w K mg base 7 "Panel" "read" N_Panel_read p_Panel_read m_Panel_read) (xo_InvalidText : ExOwn K mg "InvalidText") (dr_Panel_read : CmR HW.P HW.w K mg base 7 "Panel" "read" N_Panel_read p_Panel_read r_Panel_read) : FnOk HW.P HW.w K mg base CX0 8 f fd p_panel_of (spM K mg N_panel_of p_panel_of [] m_panel_of) := by
  refine def_ok (k := 7) F sc_panel_of fun cdv A outer s H E hr => ?_
  have nd := sc_panel_of.nd
  exact (ss_cons (s_try1 xo_InvalidText rfl rfl rfl (fun _ _ _ => (ss_cons (s_ret (e_cmX d_Panel_read (hr.mono (by decide)) rfl rfl (la_cons (e_var 0) la_nil) (len_cons len_nil) rfl))
  ss_nil)) (fun _ _ _ => (rss_cons (rs_ret (rx_cm dr_Panel_read (hr.mono (by decide)) rfl rfl (la_cons (e_var 0) la_nil) (len_cons len_nil) rfl)) (s_ret (e_cmX d_Panel_read (hr.mono (by decide)) rfl rfl (la_cons (e_var 0) la_nil) (len_cons len_nil) rfl)) rss_no)) (fun _ _ _ => (ss_cons (s_ret e_non)
  ss_nil)))
  ss_nil)

abbrev s_are_wished : Stmt := top 56
abbrev N_are_wished : List Str := ["panel", "value"]
abbrev p_are_wished : List Str := ["panel", "value"]
def m_are_wished : MS := (seqM (tryM1 "InvalidLiterals" (seqR (rcall 4 r_check_wished (bindM (mVar 0) fun d => bindM (bindM (mVar 1) fun d => bindM (retM []) fun ds => retM (d :: ds)) fun ds => retM (d :: ds))) (dropM (callD 4 m_check_wished (bindM (mVar 0) fun d => bindM (bindM (mVar 1) fun d => bindM (retM []) fun ds => retM (d :: ds)) fun ds => retM (d :: ds)) [])) noR)
  (seqM (dropM (callD 4 m_check_wished (bindM (mVar 0) fun d => bindM (bindM (mVar 1) fun d => bindM (retM []) fun ds => retM (d :: ds)) fun ds => retM (d :: ds)) []))
  nxM) (seqM (retMS (retM (.bl false)))
  nxM))
  (seqM (retMS (retM (.bl true)))
  nxM))
theorem sc_are_wished : FnScope N_are_wished p_are_wished (defScope s_are_wished) := ⟨rfl, rfl, rfl, by decide +kernel, rfl, by decide +kernel, by decide +kernel⟩
theorem x_are_wished {f : Addr} {fd : FuncData} (F : Fun K "are_wished" "are_wished" s_are_wished f fd) (T : TxtJ K mg) (d_check_wished : DefX HW.P HW.w K mg base 3 "check_wished" N_check_wished p_check_wished [] m_check_wished) (xo_InvalidLiterals : ExOwn K mg "InvalidLiterals") (dr_check_wished : DefR HW.P HW.w K mg base 3 "check_wished" N_check_wished p_check_wished [] r_check_wished) : FnOk HW.P HW.w K mg base CX0 4 f fd p_are_wished (spM K mg N_are_wished p_are_wished [] m_are_wished) := by
  refine def_ok (k := 3) F sc_are_wished fun cdv A outer s H E hr => ?_
  have nd := sc_are_wished.nd
  exact (ss_cons (s_try1 xo_InvalidLiterals rfl rfl rfl (fun _ _ _ => (ss_cons (s_drop (e_callX d_check_wished (hr.mono (by decide)) rfl rfl (la_cons (e_var 0) (la_cons (e_var 1) la_nil)) (len_cons (len_cons len_nil)) rfl))
  ss_nil)) (fun _ _ _ => (rss_cons (rs_expr (rx_call dr_check_wished (hr.mono (by decide)) rfl rfl (la_cons (e_var 0) (la_cons (e_var 1) la_nil)) (len_cons (len_cons len_nil)) rfl)) (s_drop (e_callX d_check_wished (hr.mono (by decide)) rfl rfl (la_cons (e_var 0) (la_cons (e_var 1) la_nil)) (len_cons (len_cons len_nil)) rfl)) rss_no)) (fun _ _ _ => (ss_cons (s_ret e_bl)
  ss_nil)))
  (ss_cons (s_ret e_bl)
  ss_nil))

abbrev s_is_step : Stmt := top 57
abbrev N_is_step : List Str := ["panel", "here", "value", "index", "there"]
abbrev p_is_step : List Str := ["panel", "here", "value"]
def m_is_step : MS := (seqM (ifS (bindM (bindM (callD 2 m_is_tuple_of (bindM (mVar 2) fun d => bindM (bindM (retM (.int 2)) fun d => bindM (retM []) fun ds => retM (d :: ds)) fun ds => retM (d :: ds)) []) fun d => optM (truD d)) fun k => retM !k) (seqM (retMS (retM (.bl false)))
  nxM) nxM)
  (seqM (asgM (mVar 2) (tupF 2 (consF (setF 3) (consF (setF 4) nilF))))
  (seqM (ifS (orB (bindM (bindM (callD 1 m_is_number (bindM (mVar 3) fun d => bindM (retM []) fun ds => retM (d :: ds)) []) fun d => optM (truD d)) fun k => retM !k) (orB (bindM (mBin (cmpD fun i j => decide (j ≤ i)) (mVar 3) (bindM (bindM (bindM (mVar 0) fun d => optM (fldD "Panel" "rules" d)) fun d => bindM (retM []) fun ds => retM (d :: ds)) fun ds => optM (lenD ds))) fun d => optM (blD d)) (bindM (bindM (callD 2 m_is_literal (bindM (bindM (mVar 0) fun d => optM (fldD "Panel" "switches" d)) fun d => bindM (bindM (mVar 4) fun d => bindM (retM []) fun ds => retM (d :: ds)) fun ds => retM (d :: ds)) []) fun d => optM (truD d)) fun k => retM !k))) (seqM (retMS (retM (.bl false)))
  nxM) nxM)
  (seqM (retMS (mBin (inDp false) (bindM (bindM (mVar 1) fun d => bindM (bindM (mVar 4) fun d => bindM (retM []) fun ds => retM (d :: ds)) fun ds => retM (d :: ds)) fun ds => optM (tupM ds)) (callD 4 m_rule_steps (bindM (mBin atD (bindM (mVar 0) fun d => optM (fldD "Panel" "rules" d)) (mVar 3)) fun d => bindM (retM []) fun ds => retM (d :: ds)) [])))
  nxM))))
theorem sc_is_step : FnScope N_is_step p_is_step (defScope s_is_step) := ⟨rfl, rfl, rfl, by decide +kernel, rfl, by decide +kernel, by decide +kernel⟩
theorem x_is_step {f : Addr} {fd : FuncData} (F : Fun K "is_step" "is_step" s_is_step f fd) (T : TxtJ K mg) (o_Panel : OwnC K mg "Panel" ["switches", "rules"]) (d_is_tuple_of : DefX HW.P HW.w K mg base 1 "is_tuple_of" N_is_tuple_of p_is_tuple_of [] m_is_tuple_of) (d_is_literal : DefX HW.P HW.w K mg base 2 "is_literal" N_is_literal p_is_literal [] m_is_literal) (d_is_number : DefX HW.P HW.w K mg base 1 "is_number" N_is_number p_is_number [] m_is_number) (d_rule_steps : DefX HW.P HW.w K mg base 3 "rule_steps" N_rule_steps p_rule_steps [] m_rule_steps) : FnOk HW.P HW.w K mg base CX0 4 f fd p_is_step (spM K mg N_is_step p_is_step [] m_is_step) := by
  refine def_ok (k := 3) F sc_is_step fun cdv A outer s H E hr => ?_
  have nd := sc_is_step.nd
  exact (ss_cons (s_if (b_not (b_tru (e_callX d_is_tuple_of (hr.mono (by decide)) rfl rfl (la_cons (e_var 2) (la_cons e_int la_nil)) (len_cons (len_cons len_nil)) rfl))) (ss_cons (s_ret e_bl)
  ss_nil) ss_nil)
  (ss_cons (s_asg (e_var 2) (pg_tup rfl (pgs_cons (pg_name (i := 3) nd rfl (by first | exact Or.inl rfl | exact Or.inr rfl)) (pgs_cons (pg_name (i := 4) nd rfl (by first | exact Or.inl rfl | exact Or.inr rfl)) pgs_nil))) (tg_tup (tg_cons (tg_name (by decide)) (tg_cons (tg_name (by decide)) tg_nil))))
  (ss_cons (s_if (b_w (bw_or (b_not (b_tru (e_callX d_is_number (hr.mono (by decide)) rfl rfl (la_cons (e_var 3) la_nil) (len_cons len_nil) rfl))) (bw_or (b_cmp op_ge rd_cmp (e_var 3) (e_bi call_len cd_len rfl T.len (by decide +kernel) (la_cons (e_fldX o_Panel (by simp) (e_var 0)) la_nil)) (nobehind _ (by decide) (by decide))) (bw_o1 (b_not (b_tru (e_callX d_is_literal (hr.mono (by decide)) rfl rfl (la_cons (e_fldX o_Panel (by simp) (e_var 0)) (la_cons (e_var 4) la_nil)) (len_cons (len_cons len_nil)) rfl))))))) (ss_cons (s_ret e_bl)
  ss_nil) ss_nil)
  (ss_cons (s_ret (e_cmp (op_inD hr.un65) rd_inDp (e_tup (la_cons (e_var 1) (la_cons (e_var 4) la_nil))) (e_callX d_rule_steps (hr.mono (by decide)) rfl rfl (la_cons (e_ix (e_fldX o_Panel (by simp) (e_var 0)) (e_var 3)) la_nil) (len_cons len_nil) rfl) (by rfl)))
  ss_nil))))

abbrev s_end_of : Stmt := top 58
abbrev N_end_of : List Str := ["panel", "start", "value", "here", "step"]
abbrev p_end_of : List Str := ["panel", "start", "value"]
def m_end_of : MS := (seqM (ifS (orB (bindM (bindM (bindM (mVar 2) fun d => optM (isB "tuple" d)) fun d => optM (truD d)) fun k => retM !k) (bindM (mBin (cmpD fun i j => decide (j < i)) (bindM (bindM (mVar 2) fun d => bindM (retM []) fun ds => retM (d :: ds)) fun ds => optM (lenD ds)) (retM k_MOST_ROW)) fun d => optM (blD d))) (seqM (retMS (retM .non))
  nxM) nxM)
  (seqM (asgM (mVar 1) (setF 3))
  (seqM (forL (mVar 2) (setF 4)
  (seqM (ifS (bindM (bindM (callD 5 m_is_step (bindM (mVar 0) fun d => bindM (bindM (mVar 3) fun d => bindM (bindM (mVar 4) fun d => bindM (retM []) fun ds => retM (d :: ds)) fun ds => retM (d :: ds)) fun ds => retM (d :: ds)) []) fun d => optM (truD d)) fun k => retM !k) (seqM (retMS (retM .non))
  nxM) nxM)
  (seqM (asgM (mBin atD (mVar 4) (retM (.int 1))) (setF 3))
  nxM)))
  (seqM (retMS (mVar 3))
  nxM))))
theorem sc_end_of : FnScope N_end_of p_end_of (defScope s_end_of) := ⟨rfl, rfl, rfl, by decide +kernel, rfl, by decide +kernel, by decide +kernel⟩
theorem x_end_of {f : Addr} {fd : FuncData} (F : Fun K "end_of" "end_of" s_end_of f fd) (T : TxtJ K mg) (c_MOST_ROW : ConD K mg "MOST_ROW" k_MOST_ROW) (d_is_step : DefX HW.P HW.w K mg base 4 "is_step" N_is_step p_is_step [] m_is_step) : FnOk HW.P HW.w K mg base CX0 5 f fd p_end_of (spM K mg N_end_of p_end_of [] m_end_of) := by
  refine def_ok (k := 4) F sc_end_of fun cdv A outer s H E hr => ?_
  have nd := sc_end_of.nd
  exact (ss_cons (s_if (b_w (bw_or (b_not (b_tru (e_isB (e_var 2) rfl T.isinstance (pe_bltn rfl T.tuple (by decide +kernel) rfl)))) (bw_o1 (b_cmp op_gt rd_cmp (e_bi call_len cd_len rfl T.len (by decide +kernel) (la_cons (e_var 2) la_nil)) (ConD.dE c_MOST_ROW rfl) (nobehind _ (by decide) (by decide)))))) (ss_cons (s_ret e_non)
  ss_nil) ss_nil)
  (ss_cons (s_asg (e_var 1) (pg_name (i := 3) nd rfl (by first | exact Or.inl rfl | exact Or.inr rfl)) (tg_name (by decide)))
  (ss_cons (s_forL (e_var 2) (pg_name (i := 4) nd rfl (by first | exact Or.inl rfl | exact Or.inr rfl)) (tg_name (by decide))
  (ss_cons (s_if (b_not (b_tru (e_callX d_is_step (hr.mono (by decide)) rfl rfl (la_cons (e_var 0) (la_cons (e_var 3) (la_cons (e_var 4) la_nil))) (len_cons (len_cons (len_cons len_nil))) rfl))) (ss_cons (s_ret e_non)
  ss_nil) ss_nil)
  (ss_cons (s_asg (e_ix (e_var 4) e_int) (pg_name (i := 3) nd rfl (by first | exact Or.inl rfl | exact Or.inr rfl)) (tg_name (by decide)))
  ss_nil)) rfl PassesOwn.never)
  (ss_cons (s_ret (e_var 3))
  ss_nil))))

abbrev s_is_ring : Stmt := top 59
abbrev N_is_ring : List Str := ["panel", "switch", "value", "other", "there", "back", "start"]
abbrev p_is_ring : List Str := ["panel", "switch", "value"]
def m_is_ring : MS := (seqM (ifS (bindM (bindM (callD 2 m_is_tuple_of (bindM (mVar 2) fun d => bindM (bindM (retM (.int 3)) fun d => bindM (retM []) fun ds => retM (d :: ds)) fun ds => retM (d :: ds)) []) fun d => optM (truD d)) fun k => retM !k) (seqM (retMS (retM (.bl false)))
  nxM) nxM)
  (seqM (asgM (mVar 2) (tupF 3 (consF (setF 3) (consF (setF 4) (consF (setF 5) nilF)))))
  (seqM (ifS (orB (bindM (bindM (callD 2 m_is_literal (bindM (bindM (mVar 0) fun d => optM (fldD "Panel" "switches" d)) fun d => bindM (bindM (mVar 3) fun d => bindM (retM []) fun ds => retM (d :: ds)) fun ds => retM (d :: ds)) []) fun d => optM (truD d)) fun k => retM !k) (bindM (mBin (eqD false) (mBin atD (mVar 3) (retM (.int 0))) (mVar 1)) fun d => optM (blD d))) (seqM (retMS (retM (.bl false)))
  nxM) nxM)
  (seqM (asgM (bindM (bindM (mVar 1) fun d => bindM (bindM (retM (.str ("+" : Str))) fun d => bindM (retM []) fun ds => retM (d :: ds)) fun ds => retM (d :: ds)) fun ds => optM (tupM ds)) (setF 6))
  (seqM (retMS (andV (mBin (eqD false) (callD 5 m_end_of (bindM (mVar 0) fun d => bindM (bindM (mVar 6) fun d => bindM (bindM (mVar 4) fun d => bindM (retM []) fun ds => retM (d :: ds)) fun ds => retM (d :: ds)) fun ds => retM (d :: ds)) []) (mVar 3)) (mBin (eqD false) (callD 5 m_end_of (bindM (mVar 0) fun d => bindM (bindM (mVar 3) fun d => bindM (bindM (mVar 5) fun d => bindM (retM []) fun ds => retM (d :: ds)) fun ds => retM (d :: ds)) fun ds => retM (d :: ds)) []) (mVar 6))))
  nxM)))))
theorem sc_is_ring : FnScope N_is_ring p_is_ring (defScope s_is_ring) := ⟨rfl, rfl, rfl, by decide +kernel, rfl, by decide +kernel, by decide +kernel⟩
theorem x_is_ring {f : Addr} {fd : FuncData} (F : Fun K "is_ring" "is_ring" s_is_ring f fd) (T : TxtJ K mg) (o_Panel : OwnC K mg "Panel" ["switches", "rules"]) (d_is_tuple_of : DefX HW.P HW.w K mg base 1 "is_tuple_of" N_is_tuple_of p_is_tuple_of [] m_is_tuple_of) (d_is_literal : DefX HW.P HW.w K mg base 2 "is_literal" N_is_literal p_is_literal [] m_is_literal) (d_end_of : DefX HW.P HW.w K mg base 5 "end_of" N_end_of p_end_of [] m_end_of) : FnOk HW.P HW.w K mg base CX0 6 f fd p_is_ring (spM K mg N_is_ring p_is_ring [] m_is_ring) := by
  refine def_ok (k := 5) F sc_is_ring fun cdv A outer s H E hr => ?_
  have nd := sc_is_ring.nd
  exact (ss_cons (s_if (b_not (b_tru (e_callX d_is_tuple_of (hr.mono (by decide)) rfl rfl (la_cons (e_var 2) (la_cons e_int la_nil)) (len_cons (len_cons len_nil)) rfl))) (ss_cons (s_ret e_bl)
  ss_nil) ss_nil)
  (ss_cons (s_asg (e_var 2) (pg_tup rfl (pgs_cons (pg_name (i := 3) nd rfl (by first | exact Or.inl rfl | exact Or.inr rfl)) (pgs_cons (pg_name (i := 4) nd rfl (by first | exact Or.inl rfl | exact Or.inr rfl)) (pgs_cons (pg_name (i := 5) nd rfl (by first | exact Or.inl rfl | exact Or.inr rfl)) pgs_nil)))) (tg_tup (tg_cons (tg_name (by decide)) (tg_cons (tg_name (by decide)) (tg_cons (tg_name (by decide)) tg_nil)))))
  (ss_cons (s_if (b_w (bw_or (b_not (b_tru (e_callX d_is_literal (hr.mono (by decide)) rfl rfl (la_cons (e_fldX o_Panel (by simp) (e_var 0)) (la_cons (e_var 3) la_nil)) (len_cons (len_cons len_nil)) rfl))) (bw_o1 (b_cmp (op_eqD hr.units) rd_eq (e_ix (e_var 3) e_int) (e_var 1) (nobehind _ (by decide) (by decide)))))) (ss_cons (s_ret e_bl)
  ss_nil) ss_nil)
  (ss_cons (s_asg (e_tup (la_cons (e_var 1) (la_cons e_str la_nil))) (pg_name (i := 6) nd rfl (by first | exact Or.inl rfl | exact Or.inr rfl)) (tg_name (by decide)))
  (ss_cons (s_ret (e_and (e_cmp (op_eqD hr.units) rd_eq (e_callX d_end_of (hr.mono (by decide)) rfl rfl (la_cons (e_var 0) (la_cons (e_var 6) (la_cons (e_var 4) la_nil))) (len_cons (len_cons (len_cons len_nil))) rfl) (e_var 3) (nobehind _ (by decide) (by decide))) (e_1 (e_cmp (op_eqD hr.units) rd_eq (e_callX d_end_of (hr.mono (by decide)) rfl rfl (la_cons (e_var 0) (la_cons (e_var 3) (la_cons (e_var 5) la_nil))) (len_cons (len_cons (len_cons len_nil))) rfl) (e_var 6) (nobehind _ (by decide) (by decide))))))
  ss_nil)))))

abbrev s_leads : Stmt := top 60
abbrev N_leads : List Str := ["panel", "first", "second", "row", "good", "here", "name"]
abbrev p_leads : List Str := ["panel", "first", "second", "row"]
def m_leads : MS := (seqM (ifS (orB (bindM (bindM (bindM (mVar 3) fun d => optM (isB "tuple" d)) fun d => optM (truD d)) fun k => retM !k) (bindM (mBin (cmpD fun i j => decide (j < i)) (bindM (bindM (mVar 3) fun d => bindM (retM []) fun ds => retM (d :: ds)) fun ds => optM (lenD ds)) (retM k_MOST_ROW)) fun d => optM (blD d))) (seqM (retMS (retM (.bl false)))
  nxM) nxM)
  (seqM (asgM (callD 9 m_settings (bindM (mVar 0) fun d => bindM (retM []) fun ds => retM (d :: ds)) []) (setF 4))
  (seqM (asgM (mVar 1) (setF 5))
  (seqM (forL (mVar 3) (setF 6)
  (seqM (ifS (bindM (bindM (callD 2 m_is_switch (bindM (bindM (mVar 0) fun d => optM (fldD "Panel" "switches" d)) fun d => bindM (bindM (mVar 6) fun d => bindM (retM []) fun ds => retM (d :: ds)) fun ds => retM (d :: ds)) []) fun d => optM (truD d)) fun k => retM !k) (seqM (retMS (retM (.bl false)))
  nxM) nxM)
  (seqM (asgM (callD 5 m_flipped (bindM (mVar 0) fun d => bindM (bindM (mVar 5) fun d => bindM (bindM (mVar 6) fun d => bindM (retM []) fun ds => retM (d :: ds)) fun ds => retM (d :: ds)) fun ds => retM (d :: ds)) []) (setF 5))
  (seqM (ifS (bindM (mBin (fun x y => match y with | .str _ => none | _ => inD true x y) (mVar 5) (mVar 4)) fun d => optM (blD d)) (seqM (retMS (retM (.bl false)))
  nxM) nxM)
  nxM))))
  (seqM (retMS (mBin (eqD false) (mVar 5) (mVar 2)))
  nxM)))))
theorem sc_leads : FnScope N_leads p_leads (defScope s_leads) := ⟨rfl, rfl, rfl, by decide +kernel, rfl, by decide +kernel, by decide +kernel⟩
theorem x_leads {f : Addr} {fd : FuncData} (F : Fun K "leads" "leads" s_leads f fd) (T : TxtJ K mg) (c_MOST_ROW : ConD K mg "MOST_ROW" k_MOST_ROW) (o_Panel : OwnC K mg "Panel" ["switches", "rules"]) (d_settings : DefX HW.P HW.w K mg base 4 "settings" N_settings p_settings [] m_settings) (d_is_switch : DefX HW.P HW.w K mg base 1 "is_switch" N_is_switch p_is_switch [] m_is_switch) (d_flipped : DefX HW.P HW.w K mg base 1 "flipped" N_flipped p_flipped [] m_flipped) : FnOk HW.P HW.w K mg base CX0 5 f fd p_leads (spM K mg N_leads p_leads [] m_leads) := by
  refine def_ok (k := 4) F sc_leads fun cdv A outer s H E hr => ?_
  have nd := sc_leads.nd
  exact (ss_cons (s_if (b_w (bw_or (b_not (b_tru (e_isB (e_var 3) rfl T.isinstance (pe_bltn rfl T.tuple (by decide +kernel) rfl)))) (bw_o1 (b_cmp op_gt rd_cmp (e_bi call_len cd_len rfl T.len (by decide +kernel) (la_cons (e_var 3) la_nil)) (ConD.dE c_MOST_ROW rfl) (nobehind _ (by decide) (by decide)))))) (ss_cons (s_ret e_bl)
  ss_nil) ss_nil)
  (ss_cons (s_asg (e_callX d_settings (hr.mono (by decide)) rfl rfl (la_cons (e_var 0) la_nil) (len_cons len_nil) rfl) (pg_name (i := 4) nd rfl (by first | exact Or.inl rfl | exact Or.inr rfl)) (tg_name (by decide)))
  (ss_cons (s_asg (e_var 1) (pg_name (i := 5) nd rfl (by first | exact Or.inl rfl | exact Or.inr rfl)) (tg_name (by decide)))
  (ss_cons (s_forL (e_var 3) (pg_name (i := 6) nd rfl (by first | exact Or.inl rfl | exact Or.inr rfl)) (tg_name (by decide))
  (ss_cons (s_if (b_not (b_tru (e_callX d_is_switch (hr.mono (by decide)) rfl rfl (la_cons (e_fldX o_Panel (by simp) (e_var 0)) (la_cons (e_var 6) la_nil)) (len_cons (len_cons len_nil)) rfl))) (ss_cons (s_ret e_bl)
  ss_nil) ss_nil)
  (ss_cons (s_asg (e_callX d_flipped (hr.mono (by decide)) rfl rfl (la_cons (e_var 0) (la_cons (e_var 5) (la_cons (e_var 6) la_nil))) (len_cons (len_cons (len_cons len_nil))) rfl) (pg_name (i := 5) nd rfl (by first | exact Or.inl rfl | exact Or.inr rfl)) (tg_name (by decide)))
  (ss_cons (s_if (b_cmp op_notIn_seq rd_nin (e_var 5) (e_var 4) (by rfl)) (ss_cons (s_ret e_bl)
  ss_nil) ss_nil)
  ss_nil))) rfl PassesOwn.never)
  (ss_cons (s_ret (e_cmp (op_eqD hr.units) rd_eq (e_var 5) (e_var 2) (nobehind _ (by decide) (by decide))))
  ss_nil)))))

abbrev s_shows_empty : Stmt := top 61
abbrev N_shows_empty : List Str := ["panel", "told", "certificate", "literal", "there", "back", "other"]
abbrev p_shows_empty : List Str := ["panel", "told", "certificate"]
def m_shows_empty : MS := (seqM (ifS (orB (bindM (bindM (callD 2 m_is_tuple_of (bindM (mVar 1) fun d => bindM (bindM (retM (.int 0)) fun d => bindM (retM []) fun ds => retM (d :: ds)) fun ds => retM (d :: ds)) []) fun d => optM (truD d)) fun k => retM !k) (bindM (bindM (callD 2 m_is_tuple_of (bindM (mVar 2) fun d => bindM (bindM (retM (.int 3)) fun d => bindM (retM []) fun ds => retM (d :: ds)) fun ds => retM (d :: ds)) []) fun d => optM (truD d)) fun k => retM !k)) (seqM (retMS (retM (.bl false)))
  nxM) nxM)
  (seqM (asgM (mVar 2) (tupF 3 (consF (setF 3) (consF (setF 4) (consF (setF 5) nilF)))))
  (seqM (ifS (bindM (bindM (callD 2 m_is_literal (bindM (bindM (mVar 0) fun d => optM (fldD "Panel" "switches" d)) fun d => bindM (bindM (mVar 3) fun d => bindM (retM []) fun ds => retM (d :: ds)) fun ds => retM (d :: ds)) []) fun d => optM (truD d)) fun k => retM !k) (seqM (retMS (retM (.bl false)))
  nxM) nxM)
  (seqM (asgM (callD 3 m_opposite (bindM (mVar 3) fun d => bindM (retM []) fun ds => retM (d :: ds)) []) (setF 6))
  (seqM (retMS (andV (mBin (eqD false) (callD 5 m_end_of (bindM (mVar 0) fun d => bindM (bindM (mVar 3) fun d => bindM (bindM (mVar 4) fun d => bindM (retM []) fun ds => retM (d :: ds)) fun ds => retM (d :: ds)) fun ds => retM (d :: ds)) []) (mVar 6)) (mBin (eqD false) (callD 5 m_end_of (bindM (mVar 0) fun d => bindM (bindM (mVar 6) fun d => bindM (bindM (mVar 5) fun d => bindM (retM []) fun ds => retM (d :: ds)) fun ds => retM (d :: ds)) fun ds => retM (d :: ds)) []) (mVar 3))))
  nxM)))))
theorem sc_shows_empty : FnScope N_shows_empty p_shows_empty (defScope s_shows_empty) := ⟨rfl, rfl, rfl, by decide +kernel, rfl, by decide +kernel, by decide +kernel⟩
theorem x_shows_empty {f : Addr} {fd : FuncData} (F : Fun K "shows_empty" "shows_empty" s_shows_empty f fd) (T : TxtJ K mg) (o_Panel : OwnC K mg "Panel" ["switches", "rules"]) (d_is_tuple_of : DefX HW.P HW.w K mg base 1 "is_tuple_of" N_is_tuple_of p_is_tuple_of [] m_is_tuple_of) (d_is_literal : DefX HW.P HW.w K mg base 2 "is_literal" N_is_literal p_is_literal [] m_is_literal) (d_opposite : DefX HW.P HW.w K mg base 1 "opposite" N_opposite p_opposite [] m_opposite) (d_end_of : DefX HW.P HW.w K mg base 5 "end_of" N_end_of p_end_of [] m_end_of) : FnOk HW.P HW.w K mg base CX0 6 f fd p_shows_empty (spM K mg N_shows_empty p_shows_empty [] m_shows_empty) := by
  refine def_ok (k := 5) F sc_shows_empty fun cdv A outer s H E hr => ?_
  have nd := sc_shows_empty.nd
  exact (ss_cons (s_if (b_w (bw_or (b_not (b_tru (e_callX d_is_tuple_of (hr.mono (by decide)) rfl rfl (la_cons (e_var 1) (la_cons e_int la_nil)) (len_cons (len_cons len_nil)) rfl))) (bw_o1 (b_not (b_tru (e_callX d_is_tuple_of (hr.mono (by decide)) rfl rfl (la_cons (e_var 2) (la_cons e_int la_nil)) (len_cons (len_cons len_nil)) rfl)))))) (ss_cons (s_ret e_bl)
  ss_nil) ss_nil)
  (ss_cons (s_asg (e_var 2) (pg_tup rfl (pgs_cons (pg_name (i := 3) nd rfl (by first | exact Or.inl rfl | exact Or.inr rfl)) (pgs_cons (pg_name (i := 4) nd rfl (by first | exact Or.inl rfl | exact Or.inr rfl)) (pgs_cons (pg_name (i := 5) nd rfl (by first | exact Or.inl rfl | exact Or.inr rfl)) pgs_nil)))) (tg_tup (tg_cons (tg_name (by decide)) (tg_cons (tg_name (by decide)) (tg_cons (tg_name (by decide)) tg_nil)))))
  (ss_cons (s_if (b_not (b_tru (e_callX d_is_literal (hr.mono (by decide)) rfl rfl (la_cons (e_fldX o_Panel (by simp) (e_var 0)) (la_cons (e_var 3) la_nil)) (len_cons (len_cons len_nil)) rfl))) (ss_cons (s_ret e_bl)
  ss_nil) ss_nil)
  (ss_cons (s_asg (e_callX d_opposite (hr.mono (by decide)) rfl rfl (la_cons (e_var 3) la_nil) (len_cons len_nil) rfl) (pg_name (i := 6) nd rfl (by first | exact Or.inl rfl | exact Or.inr rfl)) (tg_name (by decide)))
  (ss_cons (s_ret (e_and (e_cmp (op_eqD hr.units) rd_eq (e_callX d_end_of (hr.mono (by decide)) rfl rfl (la_cons (e_var 0) (la_cons (e_var 3) (la_cons (e_var 4) la_nil))) (len_cons (len_cons (len_cons len_nil))) rfl) (e_var 6) (nobehind _ (by decide) (by decide))) (e_1 (e_cmp (op_eqD hr.units) rd_eq (e_callX d_end_of (hr.mono (by decide)) rfl rfl (la_cons (e_var 0) (la_cons (e_var 6) (la_cons (e_var 5) la_nil))) (len_cons (len_cons (len_cons len_nil))) rfl) (e_var 3) (nobehind _ (by decide) (by decide))))))
  ss_nil)))))

abbrev s_shows_fixed : Stmt := top 62
abbrev N_shows_fixed : List Str := ["panel", "told", "certificate", "literal", "setting", "value"]
abbrev p_shows_fixed : List Str := ["panel", "told", "certificate"]
def m_shows_fixed : MS := (seqM (ifS (orB (bindM (bindM (callD 2 m_is_tuple_of (bindM (mVar 1) fun d => bindM (bindM (retM (.int 1)) fun d => bindM (retM []) fun ds => retM (d :: ds)) fun ds => retM (d :: ds)) []) fun d => optM (truD d)) fun k => retM !k) (orB (bindM (bindM (callD 2 m_is_literal (bindM (bindM (mVar 0) fun d => optM (fldD "Panel" "switches" d)) fun d => bindM (bindM (mBin atD (mVar 1) (retM (.int 0))) fun d => bindM (retM []) fun ds => retM (d :: ds)) fun ds => retM (d :: ds)) []) fun d => optM (truD d)) fun k => retM !k) (bindM (bindM (callD 2 m_is_tuple_of (bindM (mVar 2) fun d => bindM (bindM (retM (.int 2)) fun d => bindM (retM []) fun ds => retM (d :: ds)) fun ds => retM (d :: ds)) []) fun d => optM (truD d)) fun k => retM !k))) (seqM (retMS (retM (.bl false)))
  nxM) nxM)
  (seqM (asgM (mBin atD (mVar 1) (retM (.int 0))) (setF 3))
  (seqM (asgM (mVar 2) (tupF 2 (consF (setF 4) (consF (setF 5) nilF))))
  (seqM (retMS (andV (callD 2 m_is_good (bindM (mVar 0) fun d => bindM (bindM (mVar 4) fun d => bindM (retM []) fun ds => retM (d :: ds)) fun ds => retM (d :: ds)) []) (mBin (eqD false) (callD 5 m_end_of (bindM (mVar 0) fun d => bindM (bindM (callD 3 m_opposite (bindM (mVar 3) fun d => bindM (retM []) fun ds => retM (d :: ds)) []) fun d => bindM (bindM (mVar 5) fun d => bindM (retM []) fun ds => retM (d :: ds)) fun ds => retM (d :: ds)) fun ds => retM (d :: ds)) []) (mVar 3))))
  nxM))))
theorem sc_shows_fixed : FnScope N_shows_fixed p_shows_fixed (defScope s_shows_fixed) := ⟨rfl, rfl, rfl, by decide +kernel, rfl, by decide +kernel, by decide +kernel⟩
theorem x_shows_fixed {f : Addr} {fd : FuncData} (F : Fun K "shows_fixed" "shows_fixed" s_shows_fixed f fd) (T : TxtJ K mg) (o_Panel : OwnC K mg "Panel" ["switches", "rules"]) (d_is_tuple_of : DefX HW.P HW.w K mg base 1 "is_tuple_of" N_is_tuple_of p_is_tuple_of [] m_is_tuple_of) (d_is_literal : DefX HW.P HW.w K mg base 2 "is_literal" N_is_literal p_is_literal [] m_is_literal) (d_end_of : DefX HW.P HW.w K mg base 5 "end_of" N_end_of p_end_of [] m_end_of) (d_opposite : DefX HW.P HW.w K mg base 1 "opposite" N_opposite p_opposite [] m_opposite) (d_is_good : DefX HW.P HW.w K mg base 5 "is_good" N_is_good p_is_good [] m_is_good) : FnOk HW.P HW.w K mg base CX0 6 f fd p_shows_fixed (spM K mg N_shows_fixed p_shows_fixed [] m_shows_fixed) := by
  refine def_ok (k := 5) F sc_shows_fixed fun cdv A outer s H E hr => ?_
  have nd := sc_shows_fixed.nd
  exact (ss_cons (s_if (b_w (bw_or (b_not (b_tru (e_callX d_is_tuple_of (hr.mono (by decide)) rfl rfl (la_cons (e_var 1) (la_cons e_int la_nil)) (len_cons (len_cons len_nil)) rfl))) (bw_or (b_not (b_tru (e_callX d_is_literal (hr.mono (by decide)) rfl rfl (la_cons (e_fldX o_Panel (by simp) (e_var 0)) (la_cons (e_ix (e_var 1) e_int) la_nil)) (len_cons (len_cons len_nil)) rfl))) (bw_o1 (b_not (b_tru (e_callX d_is_tuple_of (hr.mono (by decide)) rfl rfl (la_cons (e_var 2) (la_cons e_int la_nil)) (len_cons (len_cons len_nil)) rfl))))))) (ss_cons (s_ret e_bl)
  ss_nil) ss_nil)
  (ss_cons (s_asg (e_ix (e_var 1) e_int) (pg_name (i := 3) nd rfl (by first | exact Or.inl rfl | exact Or.inr rfl)) (tg_name (by decide)))
  (ss_cons (s_asg (e_var 2) (pg_tup rfl (pgs_cons (pg_name (i := 4) nd rfl (by first | exact Or.inl rfl | exact Or.inr rfl)) (pgs_cons (pg_name (i := 5) nd rfl (by first | exact Or.inl rfl | exact Or.inr rfl)) pgs_nil))) (tg_tup (tg_cons (tg_name (by decide)) (tg_cons (tg_name (by decide)) tg_nil))))
  (ss_cons (s_ret (e_and (e_callX d_is_good (hr.mono (by decide)) rfl rfl (la_cons (e_var 0) (la_cons (e_var 4) la_nil)) (len_cons (len_cons len_nil)) rfl) (e_1 (e_cmp (op_eqD hr.units) rd_eq (e_callX d_end_of (hr.mono (by decide)) rfl rfl (la_cons (e_var 0) (la_cons (e_callX d_opposite (hr.mono (by decide)) rfl rfl (la_cons (e_var 3) la_nil) (len_cons len_nil) rfl) (la_cons (e_var 5) la_nil))) (len_cons (len_cons (len_cons len_nil))) rfl) (e_var 3) (nobehind _ (by decide) (by decide))))))
  ss_nil))))

abbrev s_shows_locked : Stmt := top 63
abbrev N_shows_locked : List Str := ["panel", "told", "certificate", "switch", "setting", "value", "on", "off"]
abbrev p_shows_locked : List Str := ["panel", "told", "certificate"]
def m_shows_locked : MS := (seqM (ifS (orB (bindM (bindM (callD 2 m_is_tuple_of (bindM (mVar 1) fun d => bindM (bindM (retM (.int 1)) fun d => bindM (retM []) fun ds => retM (d :: ds)) fun ds => retM (d :: ds)) []) fun d => optM (truD d)) fun k => retM !k) (orB (bindM (bindM (callD 2 m_is_switch (bindM (bindM (mVar 0) fun d => optM (fldD "Panel" "switches" d)) fun d => bindM (bindM (mBin atD (mVar 1) (retM (.int 0))) fun d => bindM (retM []) fun ds => retM (d :: ds)) fun ds => retM (d :: ds)) []) fun d => optM (truD d)) fun k => retM !k) (bindM (bindM (callD 2 m_is_tuple_of (bindM (mVar 2) fun d => bindM (bindM (retM (.int 2)) fun d => bindM (retM []) fun ds => retM (d :: ds)) fun ds => retM (d :: ds)) []) fun d => optM (truD d)) fun k => retM !k))) (seqM (retMS (retM (.bl false)))
  nxM) nxM)
  (seqM (asgM (mBin atD (mVar 1) (retM (.int 0))) (setF 3))
  (seqM (asgM (mVar 2) (tupF 2 (consF (setF 4) (consF (setF 5) nilF))))
  (seqM (ifS (bindM (bindM (callD 2 m_is_good (bindM (mVar 0) fun d => bindM (bindM (mVar 4) fun d => bindM (retM []) fun ds => retM (d :: ds)) fun ds => retM (d :: ds)) []) fun d => optM (truD d)) fun k => retM !k) (seqM (retMS (retM (.bl false)))
  nxM) nxM)
  (seqM (parM 6 7 (bindM (bindM (bindM (mVar 3) fun d => bindM (bindM (retM (.str ("+" : Str))) fun d => bindM (retM []) fun ds => retM (d :: ds)) fun ds => retM (d :: ds)) fun ds => optM (tupM ds)) fun d => bindM (bindM (bindM (bindM (mVar 3) fun d => bindM (bindM (retM (.str ("-" : Str))) fun d => bindM (retM []) fun ds => retM (d :: ds)) fun ds => retM (d :: ds)) fun ds => optM (tupM ds)) fun d => bindM (retM []) fun ds => retM (d :: ds)) fun ds => retM (d :: ds)))
  (seqM (retMS (orV (callD 7 m_is_ring (bindM (mVar 0) fun d => bindM (bindM (mVar 3) fun d => bindM (bindM (mVar 5) fun d => bindM (retM []) fun ds => retM (d :: ds)) fun ds => retM (d :: ds)) fun ds => retM (d :: ds)) []) (orV (mBin (eqD false) (callD 5 m_end_of (bindM (mVar 0) fun d => bindM (bindM (mVar 6) fun d => bindM (bindM (mVar 5) fun d => bindM (retM []) fun ds => retM (d :: ds)) fun ds => retM (d :: ds)) fun ds => retM (d :: ds)) []) (mVar 7)) (mBin (eqD false) (callD 5 m_end_of (bindM (mVar 0) fun d => bindM (bindM (mVar 7) fun d => bindM (bindM (mVar 5) fun d => bindM (retM []) fun ds => retM (d :: ds)) fun ds => retM (d :: ds)) fun ds => retM (d :: ds)) []) (mVar 6)))))
  nxM))))))
theorem sc_shows_locked : FnScope N_shows_locked p_shows_locked (defScope s_shows_locked) := ⟨rfl, rfl, rfl, by decide +kernel, rfl, by decide +kernel, by decide +kernel⟩
theorem x_shows_locked {f : Addr} {fd : FuncData} (F : Fun K "shows_locked" "shows_locked" s_shows_locked f fd) (T : TxtJ K mg) (o_Panel : OwnC K mg "Panel" ["switches", "rules"]) (d_is_tuple_of : DefX HW.P HW.w K mg base 1 "is_tuple_of" N_is_tuple_of p_is_tuple_of [] m_is_tuple_of) (d_is_switch : DefX HW.P HW.w K mg base 1 "is_switch" N_is_switch p_is_switch [] m_is_switch) (d_is_good : DefX HW.P HW.w K mg base 5 "is_good" N_is_good p_is_good [] m_is_good) (d_end_of : DefX HW.P HW.w K mg base 5 "end_of" N_end_of p_end_of [] m_end_of) (d_is_ring : DefX HW.P HW.w K mg base 6 "is_ring" N_is_ring p_is_ring [] m_is_ring) : FnOk HW.P HW.w K mg base CX0 7 f fd p_shows_locked (spM K mg N_shows_locked p_shows_locked [] m_shows_locked) := by
  refine def_ok (k := 6) F sc_shows_locked fun cdv A outer s H E hr => ?_
  have nd := sc_shows_locked.nd
  exact (ss_cons (s_if (b_w (bw_or (b_not (b_tru (e_callX d_is_tuple_of (hr.mono (by decide)) rfl rfl (la_cons (e_var 1) (la_cons e_int la_nil)) (len_cons (len_cons len_nil)) rfl))) (bw_or (b_not (b_tru (e_callX d_is_switch (hr.mono (by decide)) rfl rfl (la_cons (e_fldX o_Panel (by simp) (e_var 0)) (la_cons (e_ix (e_var 1) e_int) la_nil)) (len_cons (len_cons len_nil)) rfl))) (bw_o1 (b_not (b_tru (e_callX d_is_tuple_of (hr.mono (by decide)) rfl rfl (la_cons (e_var 2) (la_cons e_int la_nil)) (len_cons (len_cons len_nil)) rfl))))))) (ss_cons (s_ret e_bl)
  ss_nil) ss_nil)
  (ss_cons (s_asg (e_ix (e_var 1) e_int) (pg_name (i := 3) nd rfl (by first | exact Or.inl rfl | exact Or.inr rfl)) (tg_name (by decide)))
  (ss_cons (s_asg (e_var 2) (pg_tup rfl (pgs_cons (pg_name (i := 4) nd rfl (by first | exact Or.inl rfl | exact Or.inr rfl)) (pgs_cons (pg_name (i := 5) nd rfl (by first | exact Or.inl rfl | exact Or.inr rfl)) pgs_nil))) (tg_tup (tg_cons (tg_name (by decide)) (tg_cons (tg_name (by decide)) tg_nil))))
  (ss_cons (s_if (b_not (b_tru (e_callX d_is_good (hr.mono (by decide)) rfl rfl (la_cons (e_var 0) (la_cons (e_var 4) la_nil)) (len_cons (len_cons len_nil)) rfl))) (ss_cons (s_ret e_bl)
  ss_nil) ss_nil)
  (ss_cons (s_par (i := 6) (j := 7) rfl rfl (by decide) rfl rfl (la_cons (e_tup (la_cons (e_var 3) (la_cons e_str la_nil))) (la_cons (e_tup (la_cons (e_var 3) (la_cons e_str la_nil))) la_nil)) (by decide) (by decide) rfl nd)
  (ss_cons (s_ret (e_or (e_callX d_is_ring (hr.mono (by decide)) rfl rfl (la_cons (e_var 0) (la_cons (e_var 3) (la_cons (e_var 5) la_nil))) (len_cons (len_cons (len_cons len_nil))) rfl) (e_or (e_cmp (op_eqD hr.units) rd_eq (e_callX d_end_of (hr.mono (by decide)) rfl rfl (la_cons (e_var 0) (la_cons (e_var 6) (la_cons (e_var 5) la_nil))) (len_cons (len_cons (len_cons len_nil))) rfl) (e_var 7) (nobehind _ (by decide) (by decide))) (e_1 (e_cmp (op_eqD hr.units) rd_eq (e_callX d_end_of (hr.mono (by decide)) rfl rfl (la_cons (e_var 0) (la_cons (e_var 7) (la_cons (e_var 5) la_nil))) (len_cons (len_cons (len_cons len_nil))) rfl) (e_var 6) (nobehind _ (by decide) (by decide)))))))
  ss_nil))))))

abbrev s_shows_one_of : Stmt := top 64
abbrev N_shows_one_of : List Str := ["panel", "pair", "value", "literal"]
abbrev p_shows_one_of : List Str := ["panel", "pair", "value"]
def m_shows_one_of : MS := (seqM (retMS (bindM (bindM (bindM (cplL (mVar 1) [3] (setF 3) (retM true) (mBin (inTp false) (callD 5 m_end_of (bindM (mVar 0) fun d => bindM (bindM (callD 3 m_opposite (bindM (mVar 3) fun d => bindM (retM []) fun ds => retM (d :: ds)) []) fun d => bindM (bindM (mVar 2) fun d => bindM (retM []) fun ds => retM (d :: ds)) fun ds => retM (d :: ds)) fun ds => retM (d :: ds)) []) (mVar 1))) fun o => retM o.d) fun d => bindM (retM []) fun ds => retM (d :: ds)) fun ds => optM (anyD ds)))
  nxM)
theorem sc_shows_one_of : FnScope N_shows_one_of p_shows_one_of (defScope s_shows_one_of) := ⟨rfl, rfl, rfl, by decide +kernel, rfl, by decide +kernel, by decide +kernel⟩
theorem x_shows_one_of {f : Addr} {fd : FuncData} (F : Fun K "shows_one_of" "shows_one_of" s_shows_one_of f fd) (T : TxtJ K mg) (d_end_of : DefX HW.P HW.w K mg base 5 "end_of" N_end_of p_end_of [] m_end_of) (d_opposite : DefX HW.P HW.w K mg base 1 "opposite" N_opposite p_opposite [] m_opposite) : FnOk HW.P HW.w K mg base CX0 6 f fd p_shows_one_of (spM K mg N_shows_one_of p_shows_one_of [] m_shows_one_of) := by
  refine def_ok (k := 5) F sc_shows_one_of fun cdv A outer s H E hr => ?_
  have nd := sc_shows_one_of.nd
  exact (ss_cons (s_ret (e_bi (cr_any rfl) cd_any rfl T.any (by decide +kernel) (la_cons (e_frz (o_lcL (own := [("literal", 3)]) (vs := [3]) rfl rfl nd (e_var 1) (blkOk_by (N := N_shows_one_of) (sc := defScope s_shows_one_of) (by decide +kernel)) (fun _ _ _ _ _ => (pg_name (i := 3) nd rfl (by first | exact Or.inl rfl | exact Or.inr rfl))) (tg_name (by decide)) (tw_name (by decide)) (fun _ _ _ _ _ => pts_0) (fun _ _ _ _ _ => (e_cmp (op_inTp hr.un65) rd_inTp (e_callX d_end_of (hr.mono (by decide)) rfl rfl (la_cons (e_var 0) (la_cons (e_callX d_opposite (hr.mono (by decide)) rfl rfl (la_cons (e_var 3) la_nil) (len_cons len_nil) rfl) (la_cons (e_var 2) la_nil))) (len_cons (len_cons (len_cons len_nil))) rfl) (e_var 1) (by rfl))))) la_nil)))
  ss_nil)

abbrev s_shows_implied : Stmt := top 65
abbrev N_shows_implied : List Str := ["panel", "told", "certificate", "pairs", "setting", "values", "pair", "value"]
abbrev p_shows_implied : List Str := ["panel", "told", "certificate"]
def m_shows_implied : MS := (seqM (ifS (orB (bindM (bindM (callD 2 m_is_tuple_of (bindM (mVar 1) fun d => bindM (bindM (retM (.int 1)) fun d => bindM (retM []) fun ds => retM (d :: ds)) fun ds => retM (d :: ds)) []) fun d => optM (truD d)) fun k => retM !k) (orB (bindM (bindM (callD 5 m_is_rule (bindM (bindM (mVar 0) fun d => optM (fldD "Panel" "switches" d)) fun d => bindM (bindM (mBin atD (mVar 1) (retM (.int 0))) fun d => bindM (retM []) fun ds => retM (d :: ds)) fun ds => retM (d :: ds)) []) fun d => optM (truD d)) fun k => retM !k) (bindM (bindM (callD 2 m_is_tuple_of (bindM (mVar 2) fun d => bindM (bindM (retM (.int 2)) fun d => bindM (retM []) fun ds => retM (d :: ds)) fun ds => retM (d :: ds)) []) fun d => optM (truD d)) fun k => retM !k))) (seqM (retMS (retM (.bl false)))
  nxM) nxM)
  (seqM (asgM (callD 4 m_clauses (bindM (mBin atD (mVar 1) (retM (.int 0))) fun d => bindM (retM []) fun ds => retM (d :: ds)) []) (setF 3))
  (seqM (asgM (mVar 2) (tupF 2 (consF (setF 4) (consF (setF 5) nilF))))
  (seqM (ifS (orB (bindM (bindM (callD 2 m_is_good (bindM (mVar 0) fun d => bindM (bindM (mVar 4) fun d => bindM (retM []) fun ds => retM (d :: ds)) fun ds => retM (d :: ds)) []) fun d => optM (truD d)) fun k => retM !k) (bindM (bindM (callD 2 m_is_tuple_of (bindM (mVar 5) fun d => bindM (bindM (bindM (bindM (mVar 3) fun d => bindM (retM []) fun ds => retM (d :: ds)) fun ds => optM (lenD ds)) fun d => bindM (retM []) fun ds => retM (d :: ds)) fun ds => retM (d :: ds)) []) fun d => optM (truD d)) fun k => retM !k)) (seqM (retMS (retM (.bl false)))
  nxM) nxM)
  (seqM (retMS (bindM (bindM (bindM (lcG (bindM (bindM (mVar 3) fun d => bindM (bindM (mVar 5) fun d => bindM (retM []) fun ds => retM (d :: ds)) fun ds => retM (d :: ds)) fun ds => optM (zipT ds)) [6, 7] (tupF 2 (consF (setF 6) (consF (setF 7) nilF))) (retM true) (callD 4 m_shows_one_of (bindM (mVar 0) fun d => bindM (bindM (mVar 6) fun d => bindM (bindM (mVar 7) fun d => bindM (retM []) fun ds => retM (d :: ds)) fun ds => retM (d :: ds)) fun ds => retM (d :: ds)) [])) fun o => retM o.d) fun d => bindM (retM []) fun ds => retM (d :: ds)) fun ds => optM (allD ds)))
  nxM)))))
theorem sc_shows_implied : FnScope N_shows_implied p_shows_implied (defScope s_shows_implied) := ⟨rfl, rfl, rfl, by decide +kernel, rfl, by decide +kernel, by decide +kernel⟩
theorem x_shows_implied {f : Addr} {fd : FuncData} (F : Fun K "shows_implied" "shows_implied" s_shows_implied f fd) (T : TxtJ K mg) (u_zip : mg "zip" = none) (o_Panel : OwnC K mg "Panel" ["switches", "rules"]) (d_is_tuple_of : DefX HW.P HW.w K mg base 1 "is_tuple_of" N_is_tuple_of p_is_tuple_of [] m_is_tuple_of) (d_is_rule : DefX HW.P HW.w K mg base 3 "is_rule" N_is_rule p_is_rule [] m_is_rule) (d_clauses : DefX HW.P HW.w K mg base 2 "clauses" N_clauses p_clauses [] m_clauses) (d_is_good : DefX HW.P HW.w K mg base 5 "is_good" N_is_good p_is_good [] m_is_good) (d_shows_one_of : DefX HW.P HW.w K mg base 6 "shows_one_of" N_shows_one_of p_shows_one_of [] m_shows_one_of) : FnOk HW.P HW.w K mg base CX0 7 f fd p_shows_implied (spM K mg N_shows_implied p_shows_implied [] m_shows_implied) := by
  refine def_ok (k := 6) F sc_shows_implied fun cdv A outer s H E hr => ?_
  have nd := sc_shows_implied.nd
  exact (ss_cons (s_if (b_w (bw_or (b_not (b_tru (e_callX d_is_tuple_of (hr.mono (by decide)) rfl rfl (la_cons (e_var 1) (la_cons e_int la_nil)) (len_cons (len_cons len_nil)) rfl))) (bw_or (b_not (b_tru (e_callX d_is_rule (hr.mono (by decide)) rfl rfl (la_cons (e_fldX o_Panel (by simp) (e_var 0)) (la_cons (e_ix (e_var 1) e_int) la_nil)) (len_cons (len_cons len_nil)) rfl))) (bw_o1 (b_not (b_tru (e_callX d_is_tuple_of (hr.mono (by decide)) rfl rfl (la_cons (e_var 2) (la_cons e_int la_nil)) (len_cons (len_cons len_nil)) rfl))))))) (ss_cons (s_ret e_bl)
  ss_nil) ss_nil)
  (ss_cons (s_asg (e_callX d_clauses (hr.mono (by decide)) rfl rfl (la_cons (e_ix (e_var 1) e_int) la_nil) (len_cons len_nil) rfl) (pg_name (i := 3) nd rfl (by first | exact Or.inl rfl | exact Or.inr rfl)) (tg_name (by decide)))
  (ss_cons (s_asg (e_var 2) (pg_tup rfl (pgs_cons (pg_name (i := 4) nd rfl (by first | exact Or.inl rfl | exact Or.inr rfl)) (pgs_cons (pg_name (i := 5) nd rfl (by first | exact Or.inl rfl | exact Or.inr rfl)) pgs_nil))) (tg_tup (tg_cons (tg_name (by decide)) (tg_cons (tg_name (by decide)) tg_nil))))
  (ss_cons (s_if (b_w (bw_or (b_not (b_tru (e_callX d_is_good (hr.mono (by decide)) rfl rfl (la_cons (e_var 0) (la_cons (e_var 4) la_nil)) (len_cons (len_cons len_nil)) rfl))) (bw_o1 (b_not (b_tru (e_callX d_is_tuple_of (hr.mono (by decide)) rfl rfl (la_cons (e_var 5) (la_cons (e_bi call_len cd_len rfl T.len (by decide +kernel) (la_cons (e_var 3) la_nil)) la_nil)) (len_cons (len_cons len_nil)) rfl)))))) (ss_cons (s_ret e_bl)
  ss_nil) ss_nil)
  (ss_cons (s_ret (e_bi (cr_all rfl) cd_all rfl T.all (by decide +kernel) (la_cons (e_frz (o_lcG (b := true) (own := [("pair", 6), ("value", 7)]) (vs := [6, 7]) rfl rfl nd (iw_zipT (la_cons (e_var 3) (la_cons (e_var 5) la_nil)) rfl u_zip) (blkOk_by (N := N_shows_implied) (sc := defScope s_shows_implied) (by decide +kernel)) (fun _ _ _ _ _ => (pg_tup rfl (pgs_cons (pg_name (i := 6) nd rfl (by first | exact Or.inl rfl | exact Or.inr rfl)) (pgs_cons (pg_name (i := 7) nd rfl (by first | exact Or.inl rfl | exact Or.inr rfl)) pgs_nil)))) (tgx_t (tg_cons (tg_name (by decide)) (tg_cons (tg_name (by decide)) tg_nil))) (tm_tup (tm_cons (tm_name (by decide)) (tm_cons (tm_name (by decide)) tm_nil))).w (fun _ _ _ _ _ => pts_0) (fun _ _ _ _ _ => (e_callX d_shows_one_of (hr.mono (by decide)) rfl rfl (la_cons (e_var 0) (la_cons (e_var 6) (la_cons (e_var 7) la_nil))) (len_cons (len_cons (len_cons len_nil))) rfl)))) la_nil)))
  ss_nil)))))

abbrev s_are_two : Stmt := top 66
abbrev N_are_two : List Str := ["panel", "told"]
abbrev p_are_two : List Str := ["panel", "told"]
def m_are_two : MS := (seqM (retMS (andV (callD 2 m_is_tuple_of (bindM (mVar 1) fun d => bindM (bindM (retM (.int 2)) fun d => bindM (retM []) fun ds => retM (d :: ds)) fun ds => retM (d :: ds)) []) (andV (callD 2 m_is_good (bindM (mVar 0) fun d => bindM (bindM (mBin atD (mVar 1) (retM (.int 0))) fun d => bindM (retM []) fun ds => retM (d :: ds)) fun ds => retM (d :: ds)) []) (callD 2 m_is_good (bindM (mVar 0) fun d => bindM (bindM (mBin atD (mVar 1) (retM (.int 1))) fun d => bindM (retM []) fun ds => retM (d :: ds)) fun ds => retM (d :: ds)) []))))
  nxM)
theorem sc_are_two : FnScope N_are_two p_are_two (defScope s_are_two) := ⟨rfl, rfl, rfl, by decide +kernel, rfl, by decide +kernel, by decide +kernel⟩
theorem x_are_two {f : Addr} {fd : FuncData} (F : Fun K "are_two" "are_two" s_are_two f fd) (T : TxtJ K mg) (d_is_good : DefX HW.P HW.w K mg base 5 "is_good" N_is_good p_is_good [] m_is_good) (d_is_tuple_of : DefX HW.P HW.w K mg base 1 "is_tuple_of" N_is_tuple_of p_is_tuple_of [] m_is_tuple_of) : FnOk HW.P HW.w K mg base CX0 6 f fd p_are_two (spM K mg N_are_two p_are_two [] m_are_two) := by
  refine def_ok (k := 5) F sc_are_two fun cdv A outer s H E hr => ?_
  have nd := sc_are_two.nd
  exact (ss_cons (s_ret (e_and (e_callX d_is_tuple_of (hr.mono (by decide)) rfl rfl (la_cons (e_var 1) (la_cons e_int la_nil)) (len_cons (len_cons len_nil)) rfl) (e_and (e_callX d_is_good (hr.mono (by decide)) rfl rfl (la_cons (e_var 0) (la_cons (e_ix (e_var 1) e_int) la_nil)) (len_cons (len_cons len_nil)) rfl) (e_1 (e_callX d_is_good (hr.mono (by decide)) rfl rfl (la_cons (e_var 0) (la_cons (e_ix (e_var 1) e_int) la_nil)) (len_cons (len_cons len_nil)) rfl)))))
  ss_nil)

abbrev s_shows_comes : Stmt := top 67
abbrev N_shows_comes : List Str := ["panel", "told", "certificate"]
abbrev p_shows_comes : List Str := ["panel", "told", "certificate"]
def m_shows_comes : MS := (seqM (retMS (andV (callD 2 m_are_two (bindM (mVar 0) fun d => bindM (bindM (mVar 1) fun d => bindM (retM []) fun ds => retM (d :: ds)) fun ds => retM (d :: ds)) []) (callD 7 m_leads (bindM (mVar 0) fun d => bindM (bindM (mBin atD (mVar 1) (retM (.int 0))) fun d => bindM (bindM (mBin atD (mVar 1) (retM (.int 1))) fun d => bindM (bindM (mVar 2) fun d => bindM (retM []) fun ds => retM (d :: ds)) fun ds => retM (d :: ds)) fun ds => retM (d :: ds)) fun ds => retM (d :: ds)) [])))
  nxM)
theorem sc_shows_comes : FnScope N_shows_comes p_shows_comes (defScope s_shows_comes) := ⟨rfl, rfl, rfl, by decide +kernel, rfl, by decide +kernel, by decide +kernel⟩
theorem x_shows_comes {f : Addr} {fd : FuncData} (F : Fun K "shows_comes" "shows_comes" s_shows_comes f fd) (T : TxtJ K mg) (d_leads : DefX HW.P HW.w K mg base 5 "leads" N_leads p_leads [] m_leads) (d_are_two : DefX HW.P HW.w K mg base 6 "are_two" N_are_two p_are_two [] m_are_two) : FnOk HW.P HW.w K mg base CX0 7 f fd p_shows_comes (spM K mg N_shows_comes p_shows_comes [] m_shows_comes) := by
  refine def_ok (k := 6) F sc_shows_comes fun cdv A outer s H E hr => ?_
  have nd := sc_shows_comes.nd
  exact (ss_cons (s_ret (e_and (e_callX d_are_two (hr.mono (by decide)) rfl rfl (la_cons (e_var 0) (la_cons (e_var 1) la_nil)) (len_cons (len_cons len_nil)) rfl) (e_1 (e_callX d_leads (hr.mono (by decide)) rfl rfl (la_cons (e_var 0) (la_cons (e_ix (e_var 1) e_int) (la_cons (e_ix (e_var 1) e_int) (la_cons (e_var 2) la_nil)))) (len_cons (len_cons (len_cons (len_cons len_nil)))) rfl))))
  ss_nil)

abbrev s_shows_apart : Stmt := top 68
abbrev N_shows_apart : List Str := ["panel", "told", "certificate", "first", "second", "switch", "value"]
abbrev p_shows_apart : List Str := ["panel", "told", "certificate"]
def m_shows_apart : MS := (seqM (ifS (orB (bindM (bindM (callD 2 m_are_two (bindM (mVar 0) fun d => bindM (bindM (mVar 1) fun d => bindM (retM []) fun ds => retM (d :: ds)) fun ds => retM (d :: ds)) []) fun d => optM (truD d)) fun k => retM !k) (bindM (bindM (callD 2 m_is_tuple_of (bindM (mVar 2) fun d => bindM (bindM (retM (.int 2)) fun d => bindM (retM []) fun ds => retM (d :: ds)) fun ds => retM (d :: ds)) []) fun d => optM (truD d)) fun k => retM !k)) (seqM (retMS (retM (.bl false)))
  nxM) nxM)
  (seqM (asgM (mVar 1) (tupF 2 (consF (setF 3) (consF (setF 4) nilF))))
  (seqM (asgM (mVar 2) (tupF 2 (consF (setF 5) (consF (setF 6) nilF))))
  (seqM (ifS (orB (bindM (bindM (callD 2 m_is_switch (bindM (bindM (mVar 0) fun d => optM (fldD "Panel" "switches" d)) fun d => bindM (bindM (mVar 5) fun d => bindM (retM []) fun ds => retM (d :: ds)) fun ds => retM (d :: ds)) []) fun d => optM (truD d)) fun k => retM !k) (bindM (mBin (fun x y => match y with | .str _ => none | _ => inD true x y) (mVar 5) (callD 4 m_unlike (bindM (mVar 0) fun d => bindM (bindM (mVar 3) fun d => bindM (bindM (mVar 4) fun d => bindM (retM []) fun ds => retM (d :: ds)) fun ds => retM (d :: ds)) fun ds => retM (d :: ds)) [])) fun d => optM (blD d))) (seqM (retMS (retM (.bl false)))
  nxM) nxM)
  (seqM (retMS (callD 7 m_is_ring (bindM (mVar 0) fun d => bindM (bindM (mVar 5) fun d => bindM (bindM (mVar 6) fun d => bindM (retM []) fun ds => retM (d :: ds)) fun ds => retM (d :: ds)) fun ds => retM (d :: ds)) []))
  nxM)))))
theorem sc_shows_apart : FnScope N_shows_apart p_shows_apart (defScope s_shows_apart) := ⟨rfl, rfl, rfl, by decide +kernel, rfl, by decide +kernel, by decide +kernel⟩
theorem x_shows_apart {f : Addr} {fd : FuncData} (F : Fun K "shows_apart" "shows_apart" s_shows_apart f fd) (T : TxtJ K mg) (o_Panel : OwnC K mg "Panel" ["switches", "rules"]) (d_is_tuple_of : DefX HW.P HW.w K mg base 1 "is_tuple_of" N_is_tuple_of p_is_tuple_of [] m_is_tuple_of) (d_are_two : DefX HW.P HW.w K mg base 6 "are_two" N_are_two p_are_two [] m_are_two) (d_unlike : DefX HW.P HW.w K mg base 2 "unlike" N_unlike p_unlike [] m_unlike) (d_is_switch : DefX HW.P HW.w K mg base 1 "is_switch" N_is_switch p_is_switch [] m_is_switch) (d_is_ring : DefX HW.P HW.w K mg base 6 "is_ring" N_is_ring p_is_ring [] m_is_ring) : FnOk HW.P HW.w K mg base CX0 7 f fd p_shows_apart (spM K mg N_shows_apart p_shows_apart [] m_shows_apart) := by
  refine def_ok (k := 6) F sc_shows_apart fun cdv A outer s H E hr => ?_
  have nd := sc_shows_apart.nd
  exact (ss_cons (s_if (b_w (bw_or (b_not (b_tru (e_callX d_are_two (hr.mono (by decide)) rfl rfl (la_cons (e_var 0) (la_cons (e_var 1) la_nil)) (len_cons (len_cons len_nil)) rfl))) (bw_o1 (b_not (b_tru (e_callX d_is_tuple_of (hr.mono (by decide)) rfl rfl (la_cons (e_var 2) (la_cons e_int la_nil)) (len_cons (len_cons len_nil)) rfl)))))) (ss_cons (s_ret e_bl)
  ss_nil) ss_nil)
  (ss_cons (s_asg (e_var 1) (pg_tup rfl (pgs_cons (pg_name (i := 3) nd rfl (by first | exact Or.inl rfl | exact Or.inr rfl)) (pgs_cons (pg_name (i := 4) nd rfl (by first | exact Or.inl rfl | exact Or.inr rfl)) pgs_nil))) (tg_tup (tg_cons (tg_name (by decide)) (tg_cons (tg_name (by decide)) tg_nil))))
  (ss_cons (s_asg (e_var 2) (pg_tup rfl (pgs_cons (pg_name (i := 5) nd rfl (by first | exact Or.inl rfl | exact Or.inr rfl)) (pgs_cons (pg_name (i := 6) nd rfl (by first | exact Or.inl rfl | exact Or.inr rfl)) pgs_nil))) (tg_tup (tg_cons (tg_name (by decide)) (tg_cons (tg_name (by decide)) tg_nil))))
  (ss_cons (s_if (b_w (bw_or (b_not (b_tru (e_callX d_is_switch (hr.mono (by decide)) rfl rfl (la_cons (e_fldX o_Panel (by simp) (e_var 0)) (la_cons (e_var 5) la_nil)) (len_cons (len_cons len_nil)) rfl))) (bw_o1 (b_cmp op_notIn_seq rd_nin (e_var 5) (e_callX d_unlike (hr.mono (by decide)) rfl rfl (la_cons (e_var 0) (la_cons (e_var 3) (la_cons (e_var 4) la_nil))) (len_cons (len_cons (len_cons len_nil))) rfl) (by rfl))))) (ss_cons (s_ret e_bl)
  ss_nil) ss_nil)
  (ss_cons (s_ret (e_callX d_is_ring (hr.mono (by decide)) rfl rfl (la_cons (e_var 0) (la_cons (e_var 5) (la_cons (e_var 6) la_nil))) (len_cons (len_cons (len_cons len_nil))) rfl))
  ss_nil)))))

abbrev s_is_wanted : Stmt := top 69
abbrev N_is_wanted : List Str := ["panel", "wished", "goal", "value", "literal"]
abbrev p_is_wanted : List Str := ["panel", "wished", "goal", "value"]
def m_is_wanted : MS := (seqM (retMS (bindM (bindM (bindM (cplL (mVar 1) [4] (setF 4) (retM true) (mBin (eqD false) (callD 5 m_end_of (bindM (mVar 0) fun d => bindM (bindM (mVar 4) fun d => bindM (bindM (mVar 3) fun d => bindM (retM []) fun ds => retM (d :: ds)) fun ds => retM (d :: ds)) fun ds => retM (d :: ds)) []) (mVar 2))) fun o => retM o.d) fun d => bindM (retM []) fun ds => retM (d :: ds)) fun ds => optM (anyD ds)))
  nxM)
theorem sc_is_wanted : FnScope N_is_wanted p_is_wanted (defScope s_is_wanted) := ⟨rfl, rfl, rfl, by decide +kernel, rfl, by decide +kernel, by decide +kernel⟩
theorem x_is_wanted {f : Addr} {fd : FuncData} (F : Fun K "is_wanted" "is_wanted" s_is_wanted f fd) (T : TxtJ K mg) (d_end_of : DefX HW.P HW.w K mg base 5 "end_of" N_end_of p_end_of [] m_end_of) : FnOk HW.P HW.w K mg base CX0 6 f fd p_is_wanted (spM K mg N_is_wanted p_is_wanted [] m_is_wanted) := by
  refine def_ok (k := 5) F sc_is_wanted fun cdv A outer s H E hr => ?_
  have nd := sc_is_wanted.nd
  exact (ss_cons (s_ret (e_bi (cr_any rfl) cd_any rfl T.any (by decide +kernel) (la_cons (e_frz (o_lcL (own := [("literal", 4)]) (vs := [4]) rfl rfl nd (e_var 1) (blkOk_by (N := N_is_wanted) (sc := defScope s_is_wanted) (by decide +kernel)) (fun _ _ _ _ _ => (pg_name (i := 4) nd rfl (by first | exact Or.inl rfl | exact Or.inr rfl))) (tg_name (by decide)) (tw_name (by decide)) (fun _ _ _ _ _ => pts_0) (fun _ _ _ _ _ => (e_cmp (op_eqD hr.units) rd_eq (e_callX d_end_of (hr.mono (by decide)) rfl rfl (la_cons (e_var 0) (la_cons (e_var 4) (la_cons (e_var 3) la_nil))) (len_cons (len_cons (len_cons len_nil))) rfl) (e_var 2) (nobehind _ (by decide) (by decide)))))) la_nil)))
  ss_nil)

abbrev s_shows_nearest : Stmt := top 70
abbrev N_shows_nearest : List Str := ["panel", "told", "certificate", "first", "wished", "second", "literal", "row", "values", "goals", "name", "goal", "value"]
abbrev p_shows_nearest : List Str := ["panel", "told", "certificate"]
def m_shows_nearest : MS := (seqM (ifS (orB (bindM (bindM (callD 2 m_is_tuple_of (bindM (mVar 1) fun d => bindM (bindM (retM (.int 3)) fun d => bindM (retM []) fun ds => retM (d :: ds)) fun ds => retM (d :: ds)) []) fun d => optM (truD d)) fun k => retM !k) (orB (bindM (bindM (callD 2 m_are_two (bindM (mVar 0) fun d => bindM (bindM (bindM (bindM (mBin atD (mVar 1) (retM (.int 0))) fun d => bindM (bindM (mBin atD (mVar 1) (retM (.int 2))) fun d => bindM (retM []) fun ds => retM (d :: ds)) fun ds => retM (d :: ds)) fun ds => optM (tupM ds)) fun d => bindM (retM []) fun ds => retM (d :: ds)) fun ds => retM (d :: ds)) []) fun d => optM (truD d)) fun k => retM !k) (bindM (bindM (callD 2 m_are_wished (bindM (mVar 0) fun d => bindM (bindM (mBin atD (mVar 1) (retM (.int 1))) fun d => bindM (retM []) fun ds => retM (d :: ds)) fun ds => retM (d :: ds)) []) fun d => optM (truD d)) fun k => retM !k))) (seqM (retMS (retM (.bl false)))
  nxM) nxM)
  (seqM (asgM (mVar 1) (tupF 3 (consF (setF 3) (consF (setF 4) (consF (setF 5) nilF)))))
  (seqM (ifS (bindM (bindM (bindM (bindM (bindM (cplL (mVar 4) [6] (setF 6) (retM true) (callD 5 m_has_literal (bindM (bindM (mVar 0) fun d => optM (fldD "Panel" "switches" d)) fun d => bindM (bindM (mVar 5) fun d => bindM (bindM (mVar 6) fun d => bindM (retM []) fun ds => retM (d :: ds)) fun ds => retM (d :: ds)) fun ds => retM (d :: ds)) [])) fun o => retM o.d) fun d => bindM (retM []) fun ds => retM (d :: ds)) fun ds => optM (allD ds)) fun d => optM (truD d)) fun k => retM !k) (seqM (retMS (retM (.bl false)))
  nxM) nxM)
  (seqM (ifS (bindM (bindM (callD 2 m_is_tuple_of (bindM (mVar 2) fun d => bindM (bindM (retM (.int 2)) fun d => bindM (retM []) fun ds => retM (d :: ds)) fun ds => retM (d :: ds)) []) fun d => optM (truD d)) fun k => retM !k) (seqM (retMS (retM (.bl false)))
  nxM) nxM)
  (seqM (asgM (mVar 2) (tupF 2 (consF (setF 7) (consF (setF 8) nilF))))
  (seqM (asgO (cplL (callD 4 m_unlike (bindM (mVar 0) fun d => bindM (bindM (mVar 3) fun d => bindM (bindM (mVar 5) fun d => bindM (retM []) fun ds => retM (d :: ds)) fun ds => retM (d :: ds)) fun ds => retM (d :: ds)) []) [10] (setF 10) (retM true) (bindM (bindM (mVar 10) fun d => bindM (bindM (callD 3 m_sign_of (bindM (mVar 0) fun d => bindM (bindM (mVar 5) fun d => bindM (bindM (mVar 10) fun d => bindM (retM []) fun ds => retM (d :: ds)) fun ds => retM (d :: ds)) fun ds => retM (d :: ds)) []) fun d => bindM (retM []) fun ds => retM (d :: ds)) fun ds => retM (d :: ds)) fun ds => optM (tupM ds))) 9)
  (seqM (ifS (orB (bindM (bindM (callD 2 m_is_tuple_of (bindM (mVar 8) fun d => bindM (bindM (lenN 9) fun d => bindM (retM []) fun ds => retM (d :: ds)) fun ds => retM (d :: ds)) []) fun d => optM (truD d)) fun k => retM !k) (bindM (bindM (callD 7 m_leads (bindM (mVar 0) fun d => bindM (bindM (mVar 3) fun d => bindM (bindM (mVar 5) fun d => bindM (bindM (mVar 7) fun d => bindM (retM []) fun ds => retM (d :: ds)) fun ds => retM (d :: ds)) fun ds => retM (d :: ds)) fun ds => retM (d :: ds)) []) fun d => optM (truD d)) fun k => retM !k)) (seqM (retMS (retM (.bl false)))
  nxM) nxM)
  (seqM (retMS (bindM (bindM (bindM (lcG (bindM (bindM (frzN 9) fun d => bindM (bindM (mVar 8) fun d => bindM (retM []) fun ds => retM (d :: ds)) fun ds => retM (d :: ds)) fun ds => optM (zipLT ds)) [11, 12] (tupF 2 (consF (setF 11) (consF (setF 12) nilF))) (retM true) (callD 5 m_is_wanted (bindM (mVar 0) fun d => bindM (bindM (mVar 4) fun d => bindM (bindM (mVar 11) fun d => bindM (bindM (mVar 12) fun d => bindM (retM []) fun ds => retM (d :: ds)) fun ds => retM (d :: ds)) fun ds => retM (d :: ds)) fun ds => retM (d :: ds)) [])) fun o => retM o.d) fun d => bindM (retM []) fun ds => retM (d :: ds)) fun ds => optM (allD ds)))
  nxM))))))))
theorem sc_shows_nearest : FnScope N_shows_nearest p_shows_nearest (defScope s_shows_nearest) := ⟨rfl, rfl, rfl, by decide +kernel, rfl, by decide +kernel, by decide +kernel⟩
theorem x_shows_nearest {f : Addr} {fd : FuncData} (F : Fun K "shows_nearest" "shows_nearest" s_shows_nearest f fd) (T : TxtJ K mg) (u_zip : mg "zip" = none) (o_Panel : OwnC K mg "Panel" ["switches", "rules"]) (d_are_wished : DefX HW.P HW.w K mg base 4 "are_wished" N_are_wished p_are_wished [] m_are_wished) (d_are_two : DefX HW.P HW.w K mg base 6 "are_two" N_are_two p_are_two [] m_are_two) (d_is_tuple_of : DefX HW.P HW.w K mg base 1 "is_tuple_of" N_is_tuple_of p_is_tuple_of [] m_is_tuple_of) (d_has_literal : DefX HW.P HW.w K mg base 1 "has_literal" N_has_literal p_has_literal [] m_has_literal) (d_sign_of : DefX HW.P HW.w K mg base 1 "sign_of" N_sign_of p_sign_of [] m_sign_of) (d_unlike : DefX HW.P HW.w K mg base 2 "unlike" N_unlike p_unlike [] m_unlike) (d_leads : DefX HW.P HW.w K mg base 5 "leads" N_leads p_leads [] m_leads) (d_is_wanted : DefX HW.P HW.w K mg base 6 "is_wanted" N_is_wanted p_is_wanted [] m_is_wanted) : FnOk HW.P HW.w K mg base CX0 7 f fd p_shows_nearest (spM K mg N_shows_nearest p_shows_nearest [] m_shows_nearest) := by
  refine def_ok (k := 6) F sc_shows_nearest fun cdv A outer s H E hr => ?_
  have nd := sc_shows_nearest.nd
  exact (ss_cons (s_if (b_w (bw_or (b_not (b_tru (e_callX d_is_tuple_of (hr.mono (by decide)) rfl rfl (la_cons (e_var 1) (la_cons e_int la_nil)) (len_cons (len_cons len_nil)) rfl))) (bw_or (b_not (b_tru (e_callX d_are_two (hr.mono (by decide)) rfl rfl (la_cons (e_var 0) (la_cons (e_tup (la_cons (e_ix (e_var 1) e_int) (la_cons (e_ix (e_var 1) e_int) la_nil))) la_nil)) (len_cons (len_cons len_nil)) rfl))) (bw_o1 (b_not (b_tru (e_callX d_are_wished (hr.mono (by decide)) rfl rfl (la_cons (e_var 0) (la_cons (e_ix (e_var 1) e_int) la_nil)) (len_cons (len_cons len_nil)) rfl))))))) (ss_cons (s_ret e_bl)
  ss_nil) ss_nil)
  (ss_cons (s_asg (e_var 1) (pg_tup rfl (pgs_cons (pg_name (i := 3) nd rfl (by first | exact Or.inl rfl | exact Or.inr rfl)) (pgs_cons (pg_name (i := 4) nd rfl (by first | exact Or.inl rfl | exact Or.inr rfl)) (pgs_cons (pg_name (i := 5) nd rfl (by first | exact Or.inl rfl | exact Or.inr rfl)) pgs_nil)))) (tg_tup (tg_cons (tg_name (by decide)) (tg_cons (tg_name (by decide)) (tg_cons (tg_name (by decide)) tg_nil)))))
  (ss_cons (s_if (b_not (b_tru (e_bi (cr_all rfl) cd_all rfl T.all (by decide +kernel) (la_cons (e_frz (o_lcL (own := [("literal", 6)]) (vs := [6]) rfl rfl nd (e_var 4) (blkOk_by (N := N_shows_nearest) (sc := defScope s_shows_nearest) (by decide +kernel)) (fun _ _ _ _ _ => (pg_name (i := 6) nd rfl (by first | exact Or.inl rfl | exact Or.inr rfl))) (tg_name (by decide)) (tw_name (by decide)) (fun _ _ _ _ _ => pts_0) (fun _ _ _ _ _ => (e_callX d_has_literal (hr.mono (by decide)) rfl rfl (la_cons (e_fldX o_Panel (by simp) (e_var 0)) (la_cons (e_var 5) (la_cons (e_var 6) la_nil))) (len_cons (len_cons (len_cons len_nil))) rfl)))) la_nil)))) (ss_cons (s_ret e_bl)
  ss_nil) ss_nil)
  (ss_cons (s_if (b_not (b_tru (e_callX d_is_tuple_of (hr.mono (by decide)) rfl rfl (la_cons (e_var 2) (la_cons e_int la_nil)) (len_cons (len_cons len_nil)) rfl))) (ss_cons (s_ret e_bl)
  ss_nil) ss_nil)
  (ss_cons (s_asg (e_var 2) (pg_tup rfl (pgs_cons (pg_name (i := 7) nd rfl (by first | exact Or.inl rfl | exact Or.inr rfl)) (pgs_cons (pg_name (i := 8) nd rfl (by first | exact Or.inl rfl | exact Or.inr rfl)) pgs_nil))) (tg_tup (tg_cons (tg_name (by decide)) (tg_cons (tg_name (by decide)) tg_nil))))
  (ss_cons (s_setLcL (own := [("name", 10)]) (vs := [10]) rfl rfl nd (e_callX d_unlike (hr.mono (by decide)) rfl rfl (la_cons (e_var 0) (la_cons (e_var 3) (la_cons (e_var 5) la_nil))) (len_cons (len_cons (len_cons len_nil))) rfl) (blkOk_by (N := N_shows_nearest) (sc := defScope s_shows_nearest) (by decide +kernel)) (fun _ _ _ _ _ => (pg_name (i := 10) nd rfl (by first | exact Or.inl rfl | exact Or.inr rfl))) (tg_name (by decide)) (tw_name (by decide)) (fun _ _ _ _ _ => pts_0) (fun _ _ _ _ _ => (e_tup (la_cons (e_var 10) (la_cons (e_callX d_sign_of (hr.mono (by decide)) rfl rfl (la_cons (e_var 0) (la_cons (e_var 5) (la_cons (e_var 10) la_nil))) (len_cons (len_cons (len_cons len_nil))) rfl) la_nil)))) rfl rfl (by decide))
  (ss_cons (s_if (b_w (bw_or (b_not (b_tru (e_callX d_is_tuple_of (hr.mono (by decide)) rfl rfl (la_cons (e_var 8) (la_cons (e_lenN 9 (pv 9) rfl T.len) la_nil)) (len_cons (len_cons len_nil)) rfl))) (bw_o1 (b_not (b_tru (e_callX d_leads (hr.mono (by decide)) rfl rfl (la_cons (e_var 0) (la_cons (e_var 3) (la_cons (e_var 5) (la_cons (e_var 7) la_nil)))) (len_cons (len_cons (len_cons (len_cons len_nil)))) rfl)))))) (ss_cons (s_ret e_bl)
  ss_nil) ss_nil)
  (ss_cons (s_ret (e_bi (cr_all rfl) cd_all rfl T.all (by decide +kernel) (la_cons (e_frz (o_lcG (b := true) (own := [("goal", 11), ("value", 12)]) (vs := [11, 12]) rfl rfl nd (iw_zipLT (la_cons (e_frzN 9 (pv 9)) (la_cons (e_var 8) la_nil)) rfl u_zip) (blkOk_by (N := N_shows_nearest) (sc := defScope s_shows_nearest) (by decide +kernel)) (fun _ _ _ _ _ => (pg_tup rfl (pgs_cons (pg_name (i := 11) nd rfl (by first | exact Or.inl rfl | exact Or.inr rfl)) (pgs_cons (pg_name (i := 12) nd rfl (by first | exact Or.inl rfl | exact Or.inr rfl)) pgs_nil)))) (tgx_t (tg_cons (tg_name (by decide)) (tg_cons (tg_name (by decide)) tg_nil))) (tm_tup (tm_cons (tm_name (by decide)) (tm_cons (tm_name (by decide)) tm_nil))).w (fun _ _ _ _ _ => pts_0) (fun _ _ _ _ _ => (e_callX d_is_wanted (hr.mono (by decide)) rfl rfl (la_cons (e_var 0) (la_cons (e_var 4) (la_cons (e_var 11) (la_cons (e_var 12) la_nil)))) (len_cons (len_cons (len_cons (len_cons len_nil)))) rfl)))) la_nil)))
  ss_nil))))))))

abbrev s_holds_claim : Stmt := top 72
abbrev N_holds_claim : List Str := ["claim", "certificate", "panel", "check"]
abbrev p_holds_claim : List Str := ["claim", "certificate"]
def m_holds_claim : MS := (seqM (ifS (orB (bindM (bindM (bindM (mVar 0) fun d => optM (isB "tuple" d)) fun d => optM (truD d)) fun k => retM !k) (orB (bindM (mBin (cmpD fun i j => decide (i < j)) (bindM (bindM (mVar 0) fun d => bindM (retM []) fun ds => retM (d :: ds)) fun ds => optM (lenD ds)) (retM (.int 2))) fun d => optM (blD d)) (orB (bindM (bindM (bindM (mBin atD (mVar 0) (retM (.int 0))) fun d => optM (isB "str" d)) fun d => optM (truD d)) fun k => retM !k) (bindM (mBin (notF "CHECKS" fs_CHECKS) (mBin atD (mVar 0) (retM (.int 0))) (retM (.cls "CHECKS"))) fun d => optM (blD d))))) (seqM (retMS (retM (.bl false)))
  nxM) nxM)
  (seqM (asgM (callD 1 m_panel_of (bindM (mBin atD (mVar 0) (retM (.int 1))) fun d => bindM (retM []) fun ds => retM (d :: ds)) []) (setF 2))
  (seqM (ifS (bindM (mBin (isND false) (mVar 2) (retM .non)) fun d => optM (blD d)) (seqM (retMS (retM (.bl false)))
  nxM) nxM)
  (seqM (asgM (mBin (itF "CHECKS" fs_CHECKS) (retM (.cls "CHECKS")) (mBin atD (mVar 0) (retM (.int 0)))) (setF 3))
  (seqM (retMS (dispM 3 (dtab [("shows_empty", 7, m_shows_empty), ("shows_fixed", 6, m_shows_fixed), ("shows_locked", 8, m_shows_locked), ("shows_implied", 8, m_shows_implied), ("shows_comes", 3, m_shows_comes), ("shows_apart", 7, m_shows_apart), ("shows_nearest", 13, m_shows_nearest)]) (bindM (mVar 2) fun d => bindM (bindM (slM slL (mVar 0) (bindM (retM (.int 2)) fun d => optM ((intD d).map some)) (retM none)) fun d => bindM (bindM (mVar 1) fun d => bindM (retM []) fun ds => retM (d :: ds)) fun ds => retM (d :: ds)) fun ds => retM (d :: ds))))
  nxM)))))
theorem sc_holds_claim : FnScope N_holds_claim p_holds_claim (defScope s_holds_claim) := ⟨rfl, rfl, rfl, by decide +kernel, rfl, by decide +kernel, by decide +kernel⟩
theorem x_holds_claim {f : Addr} {fd : FuncData} (F : Fun K "holds_claim" "holds_claim" s_holds_claim f fd) (T : TxtJ K mg) (tf_CHECKS : TabF K HW.w mg "CHECKS" fs_CHECKS) (d_panel_of : DefX HW.P HW.w K mg base 8 "panel_of" N_panel_of p_panel_of [] m_panel_of) (d_shows_empty : DefX HW.P HW.w K mg base 6 "shows_empty" N_shows_empty p_shows_empty [] m_shows_empty) (d_shows_fixed : DefX HW.P HW.w K mg base 6 "shows_fixed" N_shows_fixed p_shows_fixed [] m_shows_fixed) (d_shows_locked : DefX HW.P HW.w K mg base 7 "shows_locked" N_shows_locked p_shows_locked [] m_shows_locked) (d_shows_implied : DefX HW.P HW.w K mg base 7 "shows_implied" N_shows_implied p_shows_implied [] m_shows_implied) (d_shows_comes : DefX HW.P HW.w K mg base 7 "shows_comes" N_shows_comes p_shows_comes [] m_shows_comes) (d_shows_apart : DefX HW.P HW.w K mg base 7 "shows_apart" N_shows_apart p_shows_apart [] m_shows_apart) (d_shows_nearest : DefX HW.P HW.w K mg base 7 "shows_nearest" N_shows_nearest p_shows_nearest [] m_shows_nearest) : FnOk HW.P HW.w K mg base CX0 9 f fd p_holds_claim (spM K mg N_holds_claim p_holds_claim [] m_holds_claim) := by
  refine def_ok (k := 8) F sc_holds_claim fun cdv A outer s H E hr => ?_
  have nd := sc_holds_claim.nd
  exact (ss_cons (s_if (b_w (bw_or (b_not (b_tru (e_isB (e_var 0) rfl T.isinstance (pe_bltn rfl T.tuple (by decide +kernel) rfl)))) (bw_or (b_cmp op_lt rd_cmp (e_bi call_len cd_len rfl T.len (by decide +kernel) (la_cons (e_var 0) la_nil)) e_int (nobehind _ (by decide) (by decide))) (bw_or (b_not (b_tru (e_isB (e_ix (e_var 0) e_int) rfl T.isinstance (pe_bltn rfl T.str (by decide +kernel) rfl)))) (bw_o1 (b_notF tf_CHECKS rfl (e_ix (e_var 0) e_int))))))) (ss_cons (s_ret e_bl)
  ss_nil) ss_nil)
  (ss_cons (s_asg (e_callX d_panel_of (hr.mono (by decide)) rfl rfl (la_cons (e_ix (e_var 0) e_int) la_nil) (len_cons len_nil) rfl) (pg_name (i := 2) nd rfl (by first | exact Or.inl rfl | exact Or.inr rfl)) (tg_name (by decide)))
  (ss_cons (s_if (b_cmp op_isNA rd_isN (e_var 2) e_non (nobehind _ (by decide) (by decide))) (ss_cons (s_ret e_bl)
  ss_nil) ss_nil)
  (ss_cons (s_asg (e_itF tf_CHECKS rfl (e_ix (e_var 0) e_int)) (pg_name (i := 3) nd rfl (by first | exact Or.inl rfl | exact Or.inr rfl)) (tg_name (by decide)))
  (ss_cons (s_ret (e_disp 3 (k := 7) (l := 3) (DTab.ok ((.cons d_shows_empty (by decide) rfl rfl (.cons d_shows_fixed (by decide) rfl rfl (.cons d_shows_locked (by decide) rfl rfl (.cons d_shows_implied (by decide) rfl rfl (.cons d_shows_comes (by decide) rfl rfl (.cons d_shows_apart (by decide) rfl rfl (.cons d_shows_nearest (by decide) rfl rfl .nil))))))) : DTab _ _ _ _ _ 7 3 _)) (hr.mono (by decide)) (la_cons (e_var 2) (la_cons (e_slA (e_var 0) (ip_some e_int) ip_none) (la_cons (e_var 1) la_nil))) (len_cons (len_cons (len_cons len_nil))) rfl))
  ss_nil)))))

end
end Fli
set_option Elab.async false
set_option linter.all false
set_option maxRecDepth 100000
set_option maxHeartbeats 8000000
namespace Fli
open PySem L2
section
variable [HW] {K : PySem.W.Frag} {mg : Str → Option Value} {base : Heap}
abbrev s__law_right : Stmt := top 80
abbrev N__law_right : List Str := ["_law_jug_here", "_law_some", "_law_said", "_law_paper", "_law_turn", "_law_asked", "_law_proof", "_law_odd", "_law_due"]
abbrev p__law_right : List Str := ["_law_jug_here"]
def m__law_right : MS := (seqM (asgM (callD 9 m__law_menu (retM []) []) (setF 1))
  (seqM (forL (mVar 1) (tupF 2 (consF (setF 2) (consF (setF 3) nilF)))
  (seqM (ifS (orB (bindM (mBin nottD (callD 4 m_holds_claim (bindM (mVar 2) fun d => bindM (bindM (mVar 3) fun d => bindM (retM []) fun ds => retM (d :: ds)) fun ds => retM (d :: ds)) []) (retM (.bl true))) fun d => optM (blD d)) (bindM (mBin nottD (bindM (bindM (mVar 3) fun d => bindM (bindM (mVar 2) fun d => bindM (retM []) fun ds => retM (d :: ds)) fun ds => retM (d :: ds)) fun ds => optM (ownM 4 m_holds_claim (pickA [1, 0] ds))) (retM (.bl true))) fun d => optM (blD d))) (seqM (retMS (retM (.bl false)))
  nxM) nxM)
  nxM))
  (seqM (forR (bindM (retM (.int 12)) fun d => bindM (retM []) fun ds => retM (d :: ds)) rng1 (setF 4)
  (seqM (asgM (lendD 2 m__law_of 0 (bindM (mVar 1) fun d => bindM (retM []) fun ds => retM (d :: ds))) (tupF 2 (consF (setF 2) (consF (setF 3) nilF))))
  (seqM (asgM (lendD 8 m__law_bent_claim 0 (bindM (mVar 2) fun d => bindM (bindM (mVar 3) fun d => bindM (retM []) fun ds => retM (d :: ds)) fun ds => retM (d :: ds))) (tupF 2 (consF (setF 5) (consF (setF 6) nilF))))
  (seqM (ifS (bindM (mBin nottD (callD 4 m_holds_claim (bindM (mVar 5) fun d => bindM (bindM (mVar 6) fun d => bindM (retM []) fun ds => retM (d :: ds)) fun ds => retM (d :: ds)) []) (retM (.bl false))) fun d => optM (blD d)) (seqM (retMS (retM (.bl false)))
  nxM) nxM)
  nxM))))
  (seqM (forR (bindM (retM (.int 6)) fun d => bindM (retM []) fun ds => retM (d :: ds)) rng1 (setF 4)
  (seqM (asgO (bindM (bindM (retM .non) fun d => bindM (bindM (retM (.bl true)) fun d => bindM (bindM (retM (.int 0)) fun d => bindM (bindM (retM (.str ("" : Str))) fun d => bindM (bindM (retM (.str ("empty" : Str))) fun d => bindM (bindM (bindM (retM []) fun ds => optM (tupM ds)) fun d => bindM (bindM (bindM (bindM (retM []) fun ds => optM (lstM ds)) fun o => retM o.d) fun d => bindM (bindM (bindM (fun s => some (O.dic [], s)) fun o => retM o.d) fun d => bindM (bindM (bindM (bindM (retM (.str ("empty" : Str))) fun d => bindM (retM []) fun ds => retM (d :: ds)) fun ds => optM (tupM ds)) fun d => bindM (bindM (bindM (bindM (retM (.str ("comes" : Str))) fun d => bindM (bindM (retM (.str ("switches a" : Str))) fun d => bindM (bindM (retM (.str ("+" : Str))) fun d => bindM (bindM (retM (.str ("+" : Str))) fun d => bindM (retM []) fun ds => retM (d :: ds)) fun ds => retM (d :: ds)) fun ds => retM (d :: ds)) fun ds => retM (d :: ds)) fun ds => optM (tupM ds)) fun d => bindM (bindM (bindM (bindM (bindM (retM []) fun ds => optM (tupM ds)) fun d => bindM (retM []) fun ds => retM (d :: ds)) fun ds => optM (tupM ds)) fun d => bindM (bindM (bindM (bindM (retM .non) fun d => bindM (bindM (retM (.str ("x" : Str))) fun d => bindM (retM []) fun ds => retM (d :: ds)) fun ds => retM (d :: ds)) fun ds => optM (tupM ds)) fun d => bindM (retM []) fun ds => retM (d :: ds)) fun ds => retM (d :: ds)) fun ds => retM (d :: ds)) fun ds => retM (d :: ds)) fun ds => retM (d :: ds)) fun ds => retM (d :: ds)) fun ds => retM (d :: ds)) fun ds => retM (d :: ds)) fun ds => retM (d :: ds)) fun ds => retM (d :: ds)) fun ds => retM (d :: ds)) fun ds => retM (d :: ds)) fun ds => optM (lstM ds)) 7)
  (seqM (parM 5 6 (bindM (lendD 2 m__law_of 0 (bindM (frzN 7) fun d => bindM (retM []) fun ds => retM (d :: ds))) fun d => bindM (bindM (lendD 2 m__law_of 0 (bindM (frzN 7) fun d => bindM (retM []) fun ds => retM (d :: ds))) fun d => bindM (retM []) fun ds => retM (d :: ds)) fun ds => retM (d :: ds)))
  (seqM (asgM (andV (mBin eqX (mVar 5) (bindM (bindM (retM (.str ("comes" : Str))) fun d => bindM (bindM (retM (.str ("switches a" : Str))) fun d => bindM (bindM (retM (.str ("+" : Str))) fun d => bindM (bindM (retM (.str ("+" : Str))) fun d => bindM (retM []) fun ds => retM (d :: ds)) fun ds => retM (d :: ds)) fun ds => retM (d :: ds)) fun ds => retM (d :: ds)) fun ds => optM (tupM ds))) (andV (bindM (mVar 6) fun d => optM (isB "tuple" d)) (mBin (eqD false) (mVar 6) (bindM (retM []) fun ds => optM (tupM ds))))) (setF 8))
  (seqM (ifS (bindM (mBin (eqD true) (bindM (bindM (callD 4 m_holds_claim (bindM (mVar 5) fun d => bindM (bindM (mVar 6) fun d => bindM (retM []) fun ds => retM (d :: ds)) fun ds => retM (d :: ds)) []) fun d => bindM (retM []) fun ds => retM (d :: ds)) fun ds => optM (reprX ds)) (bindM (bindM (mVar 8) fun d => bindM (retM []) fun ds => retM (d :: ds)) fun ds => optM (reprX ds))) fun d => optM (blD d)) (seqM (retMS (retM (.bl false)))
  nxM) nxM)
  nxM)))))
  (seqM (retMS (retM (.bl true)))
  nxM)))))
theorem sc__law_right : FnScope N__law_right p__law_right (defScope s__law_right) := ⟨rfl, rfl, rfl, by decide +kernel, rfl, by decide +kernel, by decide +kernel⟩
theorem x__law_right {f : Addr} {fd : FuncData} (F : Fun K "_law_right" "_law_right" s__law_right f fd) (T : TxtJ K mg) (kw_holds_claim_certificate_claim : DefKX HW.P HW.w K mg base 9 "holds_claim" N_holds_claim p_holds_claim ["certificate", "claim"] [1, 0] m_holds_claim) (d__law_menu : DefX HW.P HW.w K mg base 2 "_law_menu" N__law_menu p__law_menu [] m__law_menu) (d_holds_claim : DefX HW.P HW.w K mg base 9 "holds_claim" N_holds_claim p_holds_claim [] m_holds_claim) (d__law_of : DefX HW.P HW.w K mg base 2 "_law_of" N__law_of p__law_of [0] m__law_of) (d__law_bent_claim : DefX HW.P HW.w K mg base 3 "_law_bent_claim" N__law_bent_claim p__law_bent_claim [0] m__law_bent_claim) : FnG HW.P HW.w K mg base 10 f fd p__law_right (spM K mg N__law_right p__law_right [0] m__law_right) := by
  refine g_ok (k := 9) F sc__law_right fun cdv A outer s H E gd hr => ?_
  have hu66 := hr.un66
  have nd := sc__law_right.nd
  exact (ss_cons (s_asg (e_callX0 d__law_menu (hr.mono (by decide)) rfl rfl) (pg_name (i := 1) nd rfl (by first | exact Or.inl rfl | exact Or.inr rfl)) (tg_name (by decide)))
  (ss_cons (s_forL (e_var 1) (pg_tup rfl (pgs_cons (pg_name (i := 2) nd rfl (by first | exact Or.inl rfl | exact Or.inr rfl)) (pgs_cons (pg_name (i := 3) nd rfl (by first | exact Or.inl rfl | exact Or.inr rfl)) pgs_nil))) (tg_tup (tg_cons (tg_name (by decide)) (tg_cons (tg_name (by decide)) tg_nil)))
  (ss_cons (s_if (b_w (bw_or (b_cmp op_nott rd_nott (e_callX d_holds_claim (hr.mono (by decide)) rfl rfl (la_cons (e_var 2) (la_cons (e_var 3) la_nil)) (len_cons (len_cons len_nil)) rfl) e_bl (nobehind _ (by decide) (by decide))) (bw_o1 (b_cmp op_nott rd_nott (e_kwX kw_holds_claim_certificate_claim (hr.mono (by decide)) rfl rfl (lk_cons (e_var 3) (lk_cons (e_var 2) lk_nil)) (len_cons (len_cons len_nil)) (fun xs hx => by match xs, hx with | [_, _], _ => rfl)) e_bl (nobehind _ (by decide) (by decide)))))) (ss_cons (s_ret e_bl)
  ss_nil) ss_nil)
  ss_nil) rfl PassesOwn.never)
  (ss_cons (s_for1 (la_cons e_int la_nil) rfl T.range (pg_name (i := 4) nd rfl (by first | exact Or.inl rfl | exact Or.inr rfl)) (tg_name (by decide))
  (ss_cons (s_asg (e_lendX 0 d__law_of (hr.mono (by decide)) rfl rfl (pv 0) (la_cons (e_var 1) la_nil) (len_cons len_nil) rfl) (pg_tup rfl (pgs_cons (pg_name (i := 2) nd rfl (by first | exact Or.inl rfl | exact Or.inr rfl)) (pgs_cons (pg_name (i := 3) nd rfl (by first | exact Or.inl rfl | exact Or.inr rfl)) pgs_nil))) (tg_tup (tg_cons (tg_name (by decide)) (tg_cons (tg_name (by decide)) tg_nil))))
  (ss_cons (s_asg (e_lendX 0 d__law_bent_claim (hr.mono (by decide)) rfl rfl (pv 0) (la_cons (e_var 2) (la_cons (e_var 3) la_nil)) (len_cons (len_cons len_nil)) rfl) (pg_tup rfl (pgs_cons (pg_name (i := 5) nd rfl (by first | exact Or.inl rfl | exact Or.inr rfl)) (pgs_cons (pg_name (i := 6) nd rfl (by first | exact Or.inl rfl | exact Or.inr rfl)) pgs_nil))) (tg_tup (tg_cons (tg_name (by decide)) (tg_cons (tg_name (by decide)) tg_nil))))
  (ss_cons (s_if (b_cmp op_nott rd_nott (e_callX d_holds_claim (hr.mono (by decide)) rfl rfl (la_cons (e_var 5) (la_cons (e_var 6) la_nil)) (len_cons (len_cons len_nil)) rfl) e_bl (nobehind _ (by decide) (by decide))) (ss_cons (s_ret e_bl)
  ss_nil) ss_nil)
  ss_nil))) rfl PassesOwn.never)
  (ss_cons (s_for1 (la_cons e_int la_nil) rfl T.range (pg_name (i := 4) nd rfl (by first | exact Or.inl rfl | exact Or.inr rfl)) (tg_name (by decide))
  (ss_cons (s_asgO (o_lst (la_cons e_non (la_cons e_bl (la_cons e_int (la_cons e_str (la_cons e_str (la_cons (e_tup la_nil) (la_cons (e_frz (o_lst la_nil)) (la_cons (e_frz o_knew) (la_cons (e_tup (la_cons e_str la_nil)) (la_cons (e_tup (la_cons e_str (la_cons e_str (la_cons e_str (la_cons e_str la_nil))))) (la_cons (e_tup (la_cons (e_tup la_nil) la_nil)) (la_cons (e_tup (la_cons e_non (la_cons e_str la_nil))) la_nil))))))))))))) (pg_name (i := 7) nd rfl (by first | exact Or.inl rfl | exact Or.inr rfl)) (by decide))
  (ss_cons (s_par (i := 5) (j := 6) rfl rfl (by decide) rfl rfl (la_cons (e_lendX 0 d__law_of (hr.mono (by decide)) rfl rfl (pv 0) (la_cons (e_frzN 7 (pv 7)) la_nil) (len_cons len_nil) rfl) (la_cons (e_lendX 0 d__law_of (hr.mono (by decide)) rfl rfl (pv 0) (la_cons (e_frzN 7 (pv 7)) la_nil) (len_cons len_nil) rfl) la_nil)) (by decide) (by decide) rfl nd)
  (ss_cons (s_asg (e_and (e_cmp (op_eqX hr.units) rd_eqX (e_var 5) (e_tup (la_cons e_str (la_cons e_str (la_cons e_str (la_cons e_str la_nil))))) (nobehind _ (by decide) (by decide))) (e_and (e_isB (e_var 6) rfl T.isinstance (pe_bltn rfl T.tuple (by decide +kernel) rfl)) (e_1 (e_cmp (op_eqD hr.units) rd_eq (e_var 6) (e_tup la_nil) (nobehind _ (by decide) (by decide)))))) (pg_name (i := 8) nd rfl (by first | exact Or.inl rfl | exact Or.inr rfl)) (tg_name (by decide)))
  (ss_cons (s_if (b_cmp (op_neD hr.units) rd_ne (e_bi (call_reprX gd hu66) cd_reprX rfl T.repr (by decide +kernel) (la_cons (e_callX d_holds_claim (hr.mono (by decide)) rfl rfl (la_cons (e_var 5) (la_cons (e_var 6) la_nil)) (len_cons (len_cons len_nil)) rfl) la_nil)) (e_bi (call_reprX gd hu66) cd_reprX rfl T.repr (by decide +kernel) (la_cons (e_var 8) la_nil)) (nobehind _ (by decide) (by decide))) (ss_cons (s_ret e_bl)
  ss_nil) ss_nil)
  ss_nil)))) rfl PassesOwn.never)
  (ss_cons (s_ret e_bl)
  ss_nil)))))

abbrev s_law : Stmt := top 81
abbrev N_law : List Str := ["_law_script", "_law_k"]
abbrev p_law : List Str := ["_law_script"]
def m_law : MS := (seqM (retMS (bindM (bindM (bindM (cplR (bindM (bindM (bindM (retM (.int 2)) fun d => bindM (bindM (bindM (bindM (bindM (bindM (mVar 0) fun d => bindM (retM []) fun ds => retM (d :: ds)) fun ds => optM (lenD ds)) fun d => bindM (bindM (retM (.int 4)) fun d => bindM (retM []) fun ds => retM (d :: ds)) fun ds => retM (d :: ds)) fun ds => optM (minD ds)) fun d => bindM (retM []) fun ds => retM (d :: ds)) fun ds => retM (d :: ds)) fun ds => optM (maxD ds)) fun d => bindM (retM []) fun ds => retM (d :: ds)) rng1 [1] (setF 1) (retM true) (giveD 9 m__law_right (callO 5 m__law_jug (bindM (mVar 0) fun d => bindM (bindM (mVar 1) fun d => bindM (retM []) fun ds => retM (d :: ds)) fun ds => retM (d :: ds)) []))) fun o => retM o.d) fun d => bindM (retM []) fun ds => retM (d :: ds)) fun ds => optM (allD ds)))
  nxM)
theorem sc_law : FnScope N_law p_law (defScope s_law) := ⟨rfl, rfl, rfl, by decide +kernel, rfl, by decide +kernel, by decide +kernel⟩
theorem x_law {f : Addr} {fd : FuncData} (F : Fun K "law" "law" s_law f fd) (T : TxtJ K mg) (d__law_right : DefG HW.P HW.w K mg base 10 "_law_right" N__law_right p__law_right [0] m__law_right) (d__law_jug : DefX HW.P HW.w K mg base 1 "_law_jug" N__law_jug p__law_jug [] m__law_jug) : FnG HW.P HW.w K mg base 11 f fd p_law (spM K mg N_law p_law [] m_law) := by
  refine g_ok (k := 10) F sc_law fun cdv A outer s H E gd hr => ?_
  have hu66 := hr.un66
  have nd := sc_law.nd
  exact (ss_cons (s_ret (e_bi (cr_all rfl) cd_all rfl T.all (by decide +kernel) (la_cons (e_frz (o_lc1 (own := [("_law_k", 1)]) (vs := [1]) rfl rfl nd (la_cons (e_bi (call_max2 rfl) cd_max rfl T.max (by decide +kernel) (la_cons e_int (la_cons (e_bi (call_min2 rfl) cd_min rfl T.min (by decide +kernel) (la_cons (e_bi call_len cd_len rfl T.len (by decide +kernel) (la_cons (e_var 0) la_nil)) (la_cons e_int la_nil))) la_nil))) la_nil) rfl T.range (blkOk_by (N := N_law) (sc := defScope s_law) (by decide +kernel)) (fun _ _ _ _ _ => (pg_name (i := 1) nd rfl (by first | exact Or.inl rfl | exact Or.inr rfl))) (tg_name (by decide)) (tw_name (by decide)) (fun _ _ _ _ _ => pts_0) (fun _ _ _ _ _ => (e_giveX d__law_right gd (hr.mono (by decide)) rfl rfl rfl (o_callX d__law_jug (hr.mono (by decide)) rfl rfl (la_cons (e_var 0) (la_cons (e_var 1) la_nil)) (len_cons (len_cons len_nil)) rfl))))) la_nil)))
  ss_nil)
end
end Fli
set_option Elab.async false
set_option linter.all false
set_option maxRecDepth 100000
set_option maxHeartbeats 8000000
namespace Fli
open PySem PySem.Spec PyProof.Rows L2
theorem all_mk [HW] {K : PySem.W.Frag} {h : Heap} {mg : Str → Option Value} {fa C_Panel : Addr} (X : K.In h) (G : h.Ns mainGlobals mg) (hfa : mg "law" = some (.ref fa))
    (a_Panel : PySem.W.nsIn K mainGlobals "Panel" = some (some (.ref C_Panel)))
    (pg_Panel : PySem.W.plainGet K C_Panel Str.empty = true) (hd_Panel : PySem.W.hasDictIn K C_Panel = true) (po_Panel : PySem.W.plainOver K C_Panel = true) (sa_Panel : PySem.W.findIn K (.ref C_Panel) "__setattr__" = some (some (.builtin "object.__setattr__")))
    (oc_Panel : mg "Panel" = some (.ref C_Panel) → Cls K C_Panel → OwnC K mg "Panel" ["switches", "rules"])
    (T : TxtJ K mg)
    (c_HEAD : ConD K mg "HEAD" k_HEAD)
    (c_LETTERS : ConD K mg "LETTERS" k_LETTERS)
    (c_LITERAL_WORDS : ConD K mg "LITERAL_WORDS" k_LITERAL_WORDS)
    (c_MOST_NAME : ConD K mg "MOST_NAME" k_MOST_NAME)
    (c_MOST_ROW : ConD K mg "MOST_ROW" k_MOST_ROW)
    (c_MOST_RULES : ConD K mg "MOST_RULES" k_MOST_RULES)
    (c_MOST_SWITCHES : ConD K mg "MOST_SWITCHES" k_MOST_SWITCHES)
    (c_MOST_WISHED : ConD K mg "MOST_WISHED" k_MOST_WISHED)
    (c_NAME_WORDS : ConD K mg "NAME_WORDS" k_NAME_WORDS)
    (c_SIGNS : ConD K mg "SIGNS" k_SIGNS)
    (c_WORDS : ConD K mg "WORDS" k_WORDS)
    (tf_CHECKS : TabF K HW.w mg "CHECKS" fs_CHECKS)
    (u_zip : mg "zip" = none)
    (z_InvalidLiterals : ExFX HW.P K mg "InvalidLiterals" "index")
    (z_InvalidText : ExFX HW.P K mg "InvalidText" "value")
    (xo_InvalidLiterals : ExOwn K mg "InvalidLiterals")
    (xo_InvalidText : ExOwn K mg "InvalidText")
    (F__law_jug : FunX K mg "_law_jug" s__law_jug)
    (F__law_pour : FunX K mg "_law_pour" s__law_pour)
    (F__law_of : FunX K mg "_law_of" s__law_of)
    (F__law_more : FunX K mg "_law_more" s__law_more)
    (F__law_menu : FunX K mg "_law_menu" s__law_menu)
    (F__law_bent_claim : FunX K mg "_law_bent_claim" s__law_bent_claim)
    (F_is_number : FunX K mg "is_number" s_is_number)
    (F_is_name : FunX K mg "is_name" s_is_name)
    (F_is_switch : FunX K mg "is_switch" s_is_switch)
    (F_is_sign : FunX K mg "is_sign" s_is_sign)
    (F_is_literal : FunX K mg "is_literal" s_is_literal)
    (F_is_setting : FunX K mg "is_setting" s_is_setting)
    (F_is_rule : FunX K mg "is_rule" s_is_rule)
    (F_check_switches : FunX K mg "check_switches" s_check_switches)
    (F_check_rules : FunX K mg "check_rules" s_check_rules)
    (F_opposite : FunX K mg "opposite" s_opposite)
    (F_clauses : FunX K mg "clauses" s_clauses)
    (F_has_literal : FunX K mg "has_literal" s_has_literal)
    (F_keeps : FunX K mg "keeps" s_keeps)
    (F_read_literal : FunX K mg "read_literal" s_read_literal)
    (F_read_rule : FunX K mg "read_rule" s_read_rule)
    (F_check_panel : FunX K mg "check_panel" s_check_panel)
    (F_broken_rules : FunX K mg "broken_rules" s_broken_rules)
    (F_is_good : FunX K mg "is_good" s_is_good)
    (F_placed_clauses : FunX K mg "placed_clauses" s_placed_clauses)
    (F_keeps_placed : FunX K mg "keeps_placed" s_keeps_placed)
    (F_settings : FunX K mg "settings" s_settings)
    (F_rule_steps : FunX K mg "rule_steps" s_rule_steps)
    (F_sign_of : FunX K mg "sign_of" s_sign_of)
    (F_unlike : FunX K mg "unlike" s_unlike)
    (F_flipped : FunX K mg "flipped" s_flipped)
    (F_check_wished : FunX K mg "check_wished" s_check_wished)
    (F_is_tuple_of : FunX K mg "is_tuple_of" s_is_tuple_of)
    (F_panel_of : FunX K mg "panel_of" s_panel_of)
    (F_are_wished : FunX K mg "are_wished" s_are_wished)
    (F_is_step : FunX K mg "is_step" s_is_step)
    (F_end_of : FunX K mg "end_of" s_end_of)
    (F_is_ring : FunX K mg "is_ring" s_is_ring)
    (F_leads : FunX K mg "leads" s_leads)
    (F_shows_empty : FunX K mg "shows_empty" s_shows_empty)
    (F_shows_fixed : FunX K mg "shows_fixed" s_shows_fixed)
    (F_shows_locked : FunX K mg "shows_locked" s_shows_locked)
    (F_shows_one_of : FunX K mg "shows_one_of" s_shows_one_of)
    (F_shows_implied : FunX K mg "shows_implied" s_shows_implied)
    (F_are_two : FunX K mg "are_two" s_are_two)
    (F_shows_comes : FunX K mg "shows_comes" s_shows_comes)
    (F_shows_apart : FunX K mg "shows_apart" s_shows_apart)
    (F_is_wanted : FunX K mg "is_wanted" s_is_wanted)
    (F_shows_nearest : FunX K mg "shows_nearest" s_shows_nearest)
    (F_holds_claim : FunX K mg "holds_claim" s_holds_claim)
    (F__law_right : FunX K mg "_law_right" s__law_right)
    (F_law : FunX K mg "law" s_law)
    (F_Panel_read : CmF K C_Panel "read" "Panel.read" s_Panel_read)
    (I_Panel : InitF K mg C_Panel "Panel.__init__" s_Panel___init__ dd_Panel) :
    ∃ fd : FuncData, (∀ (s : Shared) (u : Value), BindsTo s fd ⟨[u], []⟩ [("_law_script", u)]) ∧ ∀ base : Heap, K.In base → base.Ns mainGlobals mg → FnG HW.P HW.w K mg base 11 fa fd p_law (spM K mg N_law p_law [] m_law) := by
  have hm_Panel : mg "Panel" = some (.ref C_Panel) := PySem.W.mg_of X G a_Panel
  have cl_Panel : Cls K C_Panel := ⟨pg_Panel, hd_Panel, po_Panel, sa_Panel⟩
  have o_Panel := oc_Panel hm_Panel cl_Panel
  obtain ⟨fl, fdl, Fl, hml⟩ := F_law
  have e := hfa.symm.trans hml
  cases e
  have Fl0 := Fl
  obtain ⟨oc, od, kV, doc, pm, an, cdv, ct, osl, rfl, lk, hcd⟩ := Fl0.ex
  refine ⟨PySem.W.fnOf "law" "law" (defArgs s_law) (defBody s_law) (defScope s_law) .none kV doc pm an cdv ct, fun s u => .of_eq rfl, fun base _ _ => ?_⟩
  have d__law_jug : DefX HW.P HW.w K mg base 1 "_law_jug" N__law_jug p__law_jug [] m__law_jug := F__law_jug.defX (fun F => x__law_jug F T) (fun _ _ _ _ _ _ us hl => match us, hl with | [_, _], _ => rfl)
  have d__law_pour : DefX HW.P HW.w K mg base 1 "_law_pour" N__law_pour p__law_pour [0] m__law_pour := F__law_pour.defX (fun F => x__law_pour F T) (fun _ _ _ _ _ _ us hl => match us, hl with | [_, _], _ => rfl)
  have d__law_of : DefX HW.P HW.w K mg base 2 "_law_of" N__law_of p__law_of [0] m__law_of := F__law_of.defX (fun F => x__law_of F T d__law_pour) (fun _ _ _ _ _ _ us hl => match us, hl with | [_, _], _ => rfl)
  have d__law_more : DefX HW.P HW.w K mg base 1 "_law_more" N__law_more p__law_more [] m__law_more := F__law_more.defX (fun F => x__law_more F T) (fun _ _ _ _ _ _ us hl => match us, hl with | [_], _ => rfl)
  have d__law_menu : DefX HW.P HW.w K mg base 2 "_law_menu" N__law_menu p__law_menu [] m__law_menu := F__law_menu.defX (fun F => x__law_menu F T d__law_more) (fun _ _ _ _ _ _ us hl => match us, hl with | [], _ => rfl)
  have d__law_bent_claim : DefX HW.P HW.w K mg base 3 "_law_bent_claim" N__law_bent_claim p__law_bent_claim [0] m__law_bent_claim := F__law_bent_claim.defX (fun F => x__law_bent_claim F T d__law_pour d__law_of) (fun _ _ _ _ _ _ us hl => match us, hl with | [_, _, _], _ => rfl)
  have d_is_number : DefX HW.P HW.w K mg base 1 "is_number" N_is_number p_is_number [] m_is_number := F_is_number.defX (fun F => x_is_number F T) (fun _ _ _ _ _ _ us hl => match us, hl with | [_], _ => rfl)
  have d_is_name : DefX HW.P HW.w K mg base 1 "is_name" N_is_name p_is_name [] m_is_name := F_is_name.defX (fun F => x_is_name F T c_WORDS c_LETTERS c_MOST_NAME) (fun _ _ _ _ _ _ us hl => match us, hl with | [_], _ => rfl)
  have d_is_switch : DefX HW.P HW.w K mg base 1 "is_switch" N_is_switch p_is_switch [] m_is_switch := F_is_switch.defX (fun F => x_is_switch F T) (fun _ _ _ _ _ _ us hl => match us, hl with | [_, _], _ => rfl)
  have d_is_sign : DefX HW.P HW.w K mg base 1 "is_sign" N_is_sign p_is_sign [] m_is_sign := F_is_sign.defX (fun F => x_is_sign F T c_SIGNS) (fun _ _ _ _ _ _ us hl => match us, hl with | [_], _ => rfl)
  have d_is_literal : DefX HW.P HW.w K mg base 2 "is_literal" N_is_literal p_is_literal [] m_is_literal := F_is_literal.defX (fun F => x_is_literal F T d_is_sign d_is_switch) (fun _ _ _ _ _ _ us hl => match us, hl with | [_, _], _ => rfl)
  have d_is_setting : DefX HW.P HW.w K mg base 1 "is_setting" N_is_setting p_is_setting [] m_is_setting := F_is_setting.defX (fun F => x_is_setting F T c_SIGNS) (fun _ _ _ _ _ _ us hl => match us, hl with | [_, _], _ => rfl)
  have d_is_rule : DefX HW.P HW.w K mg base 3 "is_rule" N_is_rule p_is_rule [] m_is_rule := F_is_rule.defX (fun F => x_is_rule F T c_LITERAL_WORDS c_NAME_WORDS d_is_literal d_is_switch) (fun _ _ _ _ _ _ us hl => match us, hl with | [_, _], _ => rfl)
  have d_check_switches : DefX HW.P HW.w K mg base 2 "check_switches" N_check_switches p_check_switches [] m_check_switches := F_check_switches.defX (fun F => x_check_switches F T c_MOST_SWITCHES d_is_name) (fun _ _ _ _ _ _ us hl => match us, hl with | [_], _ => rfl)
  have d_check_rules : DefX HW.P HW.w K mg base 4 "check_rules" N_check_rules p_check_rules [] m_check_rules := F_check_rules.defX (fun F => x_check_rules F T c_MOST_RULES d_is_rule) (fun _ _ _ _ _ _ us hl => match us, hl with | [_, _], _ => rfl)
  have d_opposite : DefX HW.P HW.w K mg base 1 "opposite" N_opposite p_opposite [] m_opposite := F_opposite.defX (fun F => x_opposite F T) (fun _ _ _ _ _ _ us hl => match us, hl with | [_], _ => rfl)
  have d_clauses : DefX HW.P HW.w K mg base 2 "clauses" N_clauses p_clauses [] m_clauses := F_clauses.defX (fun F => x_clauses F T d_opposite) (fun _ _ _ _ _ _ us hl => match us, hl with | [_], _ => rfl)
  have d_has_literal : DefX HW.P HW.w K mg base 1 "has_literal" N_has_literal p_has_literal [] m_has_literal := F_has_literal.defX (fun F => x_has_literal F T) (fun _ _ _ _ _ _ us hl => match us, hl with | [_, _, _], _ => rfl)
  have d_keeps : DefX HW.P HW.w K mg base 3 "keeps" N_keeps p_keeps [] m_keeps := F_keeps.defX (fun F => x_keeps F T d_has_literal d_clauses) (fun _ _ _ _ _ _ us hl => match us, hl with | [_, _, _], _ => rfl)
  have d_read_literal : DefX HW.P HW.w K mg base 1 "read_literal" N_read_literal p_read_literal [] m_read_literal := F_read_literal.defX (fun F => x_read_literal F T) (fun _ _ _ _ _ _ us hl => match us, hl with | [_], _ => rfl)
  have d_read_rule : DefX HW.P HW.w K mg base 2 "read_rule" N_read_rule p_read_rule [] m_read_rule := F_read_rule.defX (fun F => x_read_rule F T c_NAME_WORDS d_read_literal) (fun _ _ _ _ _ _ us hl => match us, hl with | [_], _ => rfl)
  have mk0_Panel : MakeX HW.P HW.w K mg base 5 "Panel" N_Panel___init__ p_Panel___init__ [] m_Panel___init__ := I_Panel.makeX hm_Panel 3 (by simp) rfl (fun F => x_Panel___init__ F T o_Panel d_check_switches d_check_rules) (fun _ _ _ _ _ _ _ us its hl hi => match us, hl, its, hi with | [_, _, _], _, [_], _ => ⟨_, rfl, rfl⟩)
  have mk1_Panel : MakeX HW.P HW.w K mg base 5 "Panel" N_Panel___init__ p_Panel___init__ dd_Panel m_Panel___init__ := I_Panel.makeX hm_Panel 2 (by simp) rfl (fun F => x_Panel___init__ F T o_Panel d_check_switches d_check_rules) (fun _ _ _ _ _ _ _ us its hl hi => match us, hl, its, hi with | [_, _], _, [_], _ => ⟨_, rfl, rfl⟩)
  have d_check_panel : DefX HW.P HW.w K mg base 1 "check_panel" N_check_panel p_check_panel [] m_check_panel := F_check_panel.defX (fun F => x_check_panel F T o_Panel) (fun _ _ _ _ _ _ us hl => match us, hl with | [_], _ => rfl)
  have d_Panel_read : CmX HW.P HW.w K mg base 7 "Panel" "read" N_Panel_read p_Panel_read m_Panel_read := F_Panel_read.cmX hm_Panel (fun F => x_Panel_read F T c_HEAD mk0_Panel mk1_Panel d_read_rule) (fun _ _ _ _ _ _ us hl => match us, hl with | [_, _], _ => rfl)
  have dr_Panel_read : CmR HW.P HW.w K mg base 7 "Panel" "read" N_Panel_read p_Panel_read r_Panel_read := F_Panel_read.cmR hm_Panel (fun F => xr_Panel_read F T c_HEAD mk0_Panel mk1_Panel d_read_rule z_InvalidText) (fun _ _ _ _ _ _ us hl => match us, hl with | [_, _], _ => rfl)
  have d_broken_rules : DefX HW.P HW.w K mg base 4 "broken_rules" N_broken_rules p_broken_rules [] m_broken_rules := F_broken_rules.defX (fun F => x_broken_rules F T o_Panel d_keeps) (fun _ _ _ _ _ _ us hl => match us, hl with | [_, _], _ => rfl)
  have d_is_good : DefX HW.P HW.w K mg base 5 "is_good" N_is_good p_is_good [] m_is_good := F_is_good.defX (fun F => x_is_good F T o_Panel d_check_panel d_broken_rules d_is_setting) (fun _ _ _ _ _ _ us hl => match us, hl with | [_, _], _ => rfl)
  have d_placed_clauses : DefX HW.P HW.w K mg base 3 "placed_clauses" N_placed_clauses p_placed_clauses [] m_placed_clauses := F_placed_clauses.defX (fun F => x_placed_clauses F T o_Panel d_clauses) (fun _ _ _ _ _ _ us hl => match us, hl with | [_], _ => rfl)
  have d_keeps_placed : DefX HW.P HW.w K mg base 1 "keeps_placed" N_keeps_placed p_keeps_placed [] m_keeps_placed := F_keeps_placed.defX (fun F => x_keeps_placed F T) (fun _ _ _ _ _ _ us hl => match us, hl with | [_, _], _ => rfl)
  have d_settings : DefX HW.P HW.w K mg base 4 "settings" N_settings p_settings [] m_settings := F_settings.defX (fun F => x_settings F T c_SIGNS o_Panel d_check_panel d_placed_clauses d_keeps_placed) (fun _ _ _ _ _ _ us hl => match us, hl with | [_], _ => rfl)
  have d_rule_steps : DefX HW.P HW.w K mg base 3 "rule_steps" N_rule_steps p_rule_steps [] m_rule_steps := F_rule_steps.defX (fun F => x_rule_steps F T d_clauses d_opposite) (fun _ _ _ _ _ _ us hl => match us, hl with | [_], _ => rfl)
  have d_sign_of : DefX HW.P HW.w K mg base 1 "sign_of" N_sign_of p_sign_of [] m_sign_of := F_sign_of.defX (fun F => x_sign_of F T o_Panel) (fun _ _ _ _ _ _ us hl => match us, hl with | [_, _, _], _ => rfl)
  have d_unlike : DefX HW.P HW.w K mg base 2 "unlike" N_unlike p_unlike [] m_unlike := F_unlike.defX (fun F => x_unlike F T o_Panel d_sign_of) (fun _ _ _ _ _ _ us hl => match us, hl with | [_, _, _], _ => rfl)
  have d_flipped : DefX HW.P HW.w K mg base 1 "flipped" N_flipped p_flipped [] m_flipped := F_flipped.defX (fun F => x_flipped F T o_Panel) (fun _ _ _ _ _ _ us hl => match us, hl with | [_, _, _], _ => rfl)
  have dr_check_wished : DefR HW.P HW.w K mg base 3 "check_wished" N_check_wished p_check_wished [] r_check_wished := F_check_wished.defR (fun F => xr_check_wished F T c_MOST_WISHED o_Panel d_is_literal z_InvalidLiterals) (fun _ _ _ _ _ _ us hl => match us, hl with | [_, _], _ => rfl)
  have d_check_wished : DefX HW.P HW.w K mg base 3 "check_wished" N_check_wished p_check_wished [] m_check_wished := F_check_wished.defX (fun F => x_check_wished F T c_MOST_WISHED o_Panel d_is_literal) (fun _ _ _ _ _ _ us hl => match us, hl with | [_, _], _ => rfl)
  have d_is_tuple_of : DefX HW.P HW.w K mg base 1 "is_tuple_of" N_is_tuple_of p_is_tuple_of [] m_is_tuple_of := F_is_tuple_of.defX (fun F => x_is_tuple_of F T) (fun _ _ _ _ _ _ us hl => match us, hl with | [_, _], _ => rfl)
  have d_panel_of : DefX HW.P HW.w K mg base 8 "panel_of" N_panel_of p_panel_of [] m_panel_of := F_panel_of.defX (fun F => x_panel_of F T d_Panel_read xo_InvalidText dr_Panel_read) (fun _ _ _ _ _ _ us hl => match us, hl with | [_], _ => rfl)
  have d_are_wished : DefX HW.P HW.w K mg base 4 "are_wished" N_are_wished p_are_wished [] m_are_wished := F_are_wished.defX (fun F => x_are_wished F T d_check_wished xo_InvalidLiterals dr_check_wished) (fun _ _ _ _ _ _ us hl => match us, hl with | [_, _], _ => rfl)
  have d_is_step : DefX HW.P HW.w K mg base 4 "is_step" N_is_step p_is_step [] m_is_step := F_is_step.defX (fun F => x_is_step F T o_Panel d_is_tuple_of d_is_literal d_is_number d_rule_steps) (fun _ _ _ _ _ _ us hl => match us, hl with | [_, _, _], _ => rfl)
  have d_end_of : DefX HW.P HW.w K mg base 5 "end_of" N_end_of p_end_of [] m_end_of := F_end_of.defX (fun F => x_end_of F T c_MOST_ROW d_is_step) (fun _ _ _ _ _ _ us hl => match us, hl with | [_, _, _], _ => rfl)
  have d_is_ring : DefX HW.P HW.w K mg base 6 "is_ring" N_is_ring p_is_ring [] m_is_ring := F_is_ring.defX (fun F => x_is_ring F T o_Panel d_is_tuple_of d_is_literal d_end_of) (fun _ _ _ _ _ _ us hl => match us, hl with | [_, _, _], _ => rfl)
  have d_leads : DefX HW.P HW.w K mg base 5 "leads" N_leads p_leads [] m_leads := F_leads.defX (fun F => x_leads F T c_MOST_ROW o_Panel d_settings d_is_switch d_flipped) (fun _ _ _ _ _ _ us hl => match us, hl with | [_, _, _, _], _ => rfl)
  have d_shows_empty : DefX HW.P HW.w K mg base 6 "shows_empty" N_shows_empty p_shows_empty [] m_shows_empty := F_shows_empty.defX (fun F => x_shows_empty F T o_Panel d_is_tuple_of d_is_literal d_opposite d_end_of) (fun _ _ _ _ _ _ us hl => match us, hl with | [_, _, _], _ => rfl)
  have d_shows_fixed : DefX HW.P HW.w K mg base 6 "shows_fixed" N_shows_fixed p_shows_fixed [] m_shows_fixed := F_shows_fixed.defX (fun F => x_shows_fixed F T o_Panel d_is_tuple_of d_is_literal d_end_of d_opposite d_is_good) (fun _ _ _ _ _ _ us hl => match us, hl with | [_, _, _], _ => rfl)
  have d_shows_locked : DefX HW.P HW.w K mg base 7 "shows_locked" N_shows_locked p_shows_locked [] m_shows_locked := F_shows_locked.defX (fun F => x_shows_locked F T o_Panel d_is_tuple_of d_is_switch d_is_good d_end_of d_is_ring) (fun _ _ _ _ _ _ us hl => match us, hl with | [_, _, _], _ => rfl)
  have d_shows_one_of : DefX HW.P HW.w K mg base 6 "shows_one_of" N_shows_one_of p_shows_one_of [] m_shows_one_of := F_shows_one_of.defX (fun F => x_shows_one_of F T d_end_of d_opposite) (fun _ _ _ _ _ _ us hl => match us, hl with | [_, _, _], _ => rfl)
  have d_shows_implied : DefX HW.P HW.w K mg base 7 "shows_implied" N_shows_implied p_shows_implied [] m_shows_implied := F_shows_implied.defX (fun F => x_shows_implied F T u_zip o_Panel d_is_tuple_of d_is_rule d_clauses d_is_good d_shows_one_of) (fun _ _ _ _ _ _ us hl => match us, hl with | [_, _, _], _ => rfl)
  have d_are_two : DefX HW.P HW.w K mg base 6 "are_two" N_are_two p_are_two [] m_are_two := F_are_two.defX (fun F => x_are_two F T d_is_good d_is_tuple_of) (fun _ _ _ _ _ _ us hl => match us, hl with | [_, _], _ => rfl)
  have d_shows_comes : DefX HW.P HW.w K mg base 7 "shows_comes" N_shows_comes p_shows_comes [] m_shows_comes := F_shows_comes.defX (fun F => x_shows_comes F T d_leads d_are_two) (fun _ _ _ _ _ _ us hl => match us, hl with | [_, _, _], _ => rfl)
  have d_shows_apart : DefX HW.P HW.w K mg base 7 "shows_apart" N_shows_apart p_shows_apart [] m_shows_apart := F_shows_apart.defX (fun F => x_shows_apart F T o_Panel d_is_tuple_of d_are_two d_unlike d_is_switch d_is_ring) (fun _ _ _ _ _ _ us hl => match us, hl with | [_, _, _], _ => rfl)
  have d_is_wanted : DefX HW.P HW.w K mg base 6 "is_wanted" N_is_wanted p_is_wanted [] m_is_wanted := F_is_wanted.defX (fun F => x_is_wanted F T d_end_of) (fun _ _ _ _ _ _ us hl => match us, hl with | [_, _, _, _], _ => rfl)
  have d_shows_nearest : DefX HW.P HW.w K mg base 7 "shows_nearest" N_shows_nearest p_shows_nearest [] m_shows_nearest := F_shows_nearest.defX (fun F => x_shows_nearest F T u_zip o_Panel d_are_wished d_are_two d_is_tuple_of d_has_literal d_sign_of d_unlike d_leads d_is_wanted) (fun _ _ _ _ _ _ us hl => match us, hl with | [_, _, _], _ => rfl)
  have kw_holds_claim_certificate_claim : DefKX HW.P HW.w K mg base 9 "holds_claim" N_holds_claim p_holds_claim ["certificate", "claim"] [1, 0] m_holds_claim := F_holds_claim.defK (fun F => x_holds_claim F T tf_CHECKS d_panel_of d_shows_empty d_shows_fixed d_shows_locked d_shows_implied d_shows_comes d_shows_apart d_shows_nearest) (fun _ _ _ _ _ _ ws hl => match ws, hl with | [_, _], _ => rfl)
  have d_holds_claim : DefX HW.P HW.w K mg base 9 "holds_claim" N_holds_claim p_holds_claim [] m_holds_claim := F_holds_claim.defX (fun F => x_holds_claim F T tf_CHECKS d_panel_of d_shows_empty d_shows_fixed d_shows_locked d_shows_implied d_shows_comes d_shows_apart d_shows_nearest) (fun _ _ _ _ _ _ us hl => match us, hl with | [_, _], _ => rfl)
  have d__law_right : DefG HW.P HW.w K mg base 10 "_law_right" N__law_right p__law_right [0] m__law_right := F__law_right.defG (fun F => x__law_right F T kw_holds_claim_certificate_claim d__law_menu d_holds_claim d__law_of d__law_bent_claim) (fun _ _ _ _ _ _ us hl => match us, hl with | [_], _ => rfl)
  exact x_law Fl T d__law_right d__law_jug
end Fli
set_option Elab.async false
set_option linter.all false
set_option maxRecDepth 100000
set_option maxHeartbeats 4000000
namespace Fli
open PySem L2

/-! what a mirror comes to -/
def Wp {α : Type} (m : M α) (s : S) (Q : α → S → Prop) : Prop := ∃ a s', m s = some (a, s') ∧ Q a s'
def WS (m : MS) (s : S) (Q : Out → Prop) : Prop := ∃ o, m s = some o ∧ Q o
def thenO (k : S → Prop) (Q : Out → Prop) : Out → Prop
  | .nx s => k s
  | o => Q o
def iteB (k : Bool) (A B : Prop) : Prop := match k with
  | true => A
  | false => B
theorem iteB_t {A B : Prop} (h : A) : iteB true A B := h
theorem iteB_f {A B : Prop} (h : B) : iteB false A B := h
theorem iteB_by {k : Bool} {A B : Prop} (h1 : k = true → A) (h2 : k = false → B) : iteB k A B := by
  cases k with
  | true => exact h1 rfl
  | false => exact h2 rfl
section
variable {α β : Type} {s s1 : S} {Q : α → S → Prop} {R : β → S → Prop} {m : M α}
theorem Wp.mono {Q' : α → S → Prop} (h : Wp m s Q) (q : ∀ a s1, Q a s1 → Q' a s1) : Wp m s Q' := by
  obtain ⟨a, s1, e, z⟩ := h
  exact ⟨a, s1, e, q a s1 z⟩
theorem w_bind {f : α → M β} (h : Wp m s fun a s1 => Wp (f a) s1 R) : Wp (bindM m f) s R := by
  obtain ⟨a, s1, e, b, s2, e2, q⟩ := h
  exact ⟨b, s2, by unfold bindM; rw [e]; exact e2, q⟩
theorem w_ret {a : α} (h : Q a s) : Wp (retM a) s Q := ⟨a, s, rfl, h⟩
theorem w_opt {o : Option α} {a : α} (e : o = some a) (h : Q a s) : Wp (optM o) s Q := ⟨a, s, by unfold optM; rw [e]; rfl, h⟩
theorem w_ifM {c : M Bool} {a b : M α} (h : Wp c s fun k s1 => iteB k (Wp a s1 Q) (Wp b s1 Q)) : Wp (ifM c a b) s Q := w_bind (h.mono fun k s1 z => by cases k <;> exact z)
end
section
variable {s s1 : S} {Q : D → S → Prop} {QB : Bool → S → Prop} {QO : O → S → Prop} {a b m : M D} {c c1 c2 : M Bool}
theorem w_var {i : Nat} {d : D} (e : s[i]? = some (some (.d d))) (h : Q d s) : Wp (mVar i) s Q := ⟨d, s, by unfold mVar; rw [e], h⟩
theorem w_bin {f : D → D → Option D} (h : Wp a s fun x s1 => Wp b s1 fun y s2 => Wp (optM (f x y)) s2 Q) : Wp (mBin f a b) s Q := w_bind (h.mono fun _ _ z => w_bind z)
theorem w_andB (h : Wp c1 s fun k s1 => iteB k (Wp c2 s1 QB) (QB false s1)) : Wp (andB c1 c2) s QB := w_bind (h.mono fun k s1 z => by cases k; exact w_ret z; exact z)
theorem w_orB (h : Wp c1 s fun k s1 => iteB k (QB true s1) (Wp c2 s1 QB)) : Wp (orB c1 c2) s QB := w_bind (h.mono fun k s1 z => by cases k; exact z; exact w_ret z)
theorem w_andV (h : Wp a s fun x s1 => ∃ k, truD x = some k ∧ iteB k (Wp b s1 Q) (Q x s1)) : Wp (andV a b) s Q := w_bind (h.mono fun x s1 ⟨k, e, z⟩ => w_bind (w_opt e (by cases k; exact w_ret z; exact z)))
theorem w_orV (h : Wp a s fun x s1 => ∃ k, truD x = some k ∧ iteB k (Q x s1) (Wp b s1 Q)) : Wp (orV a b) s Q := w_bind (h.mono fun x s1 ⟨k, e, z⟩ => w_bind (w_opt e (by cases k; exact z; exact w_ret z)))
theorem w_frzD {i : Nat} {d : D} (e : s[i]? = some (some (.d d))) (h : Q d s) : Wp (frzN i) s Q := ⟨d, s, by unfold frzN; rw [e], h⟩
theorem w_frzO {i : Nat} {o : O} (e : s[i]? = some (some (.own o))) (h : Q o.d (s.set i (some (.d o.d)))) : Wp (frzN i) s Q := ⟨o.d, _, by unfold frzN; rw [e], h⟩
theorem w_mul {i j : Int} (c : CMul i j) (h : Q (.int (i * j)) s) : Wp (optM (mulD (.int i) (.int j))) s Q := w_opt (by show (if CMul i j then some (D.int (i * j)) else none) = _; rw [if_pos c]) h
theorem w_div {i j : Int} (c : CDivN i j) (h : Q (.int (i.fdiv j)) s) : Wp (optM (divD (.int i) (.int j))) s Q := w_opt (by show (if CDivN i j then some (D.int (i.fdiv j)) else none) = _; rw [if_pos c]) h
theorem w_mod {i j : Int} (c : j ≠ 0) (h : Q (.int (i.fmod j)) s) : Wp (optM (modD (.int i) (.int j))) s Q := w_opt (by show (if j ≠ 0 then some (D.int (i.fmod j)) else none) = _; rw [if_pos c]) h
theorem w_pow {i j : Int} (c : CPow i j) (h : Q (.int (i ^ j.toNat)) s) : Wp (optM (powD (.int i) (.int j))) s Q := w_opt (by show (if CPow i j then some (D.int (i ^ j.toNat)) else none) = _; rw [if_pos c]) h
theorem w_lstM {ds : List D} (c : ds.length ≤ sizeLine) (h : QO (.lst ds) s) : Wp (optM (lstM ds)) s QO := w_opt (by unfold lstM; rw [if_pos c]) h
theorem w_tupM {ds : List D} (c : ds.length ≤ sizeLine) (h : Q (.tup ds) s) : Wp (optM (tupM ds)) s Q := w_opt (by unfold tupM; rw [if_pos c]) h
theorem mLs_d {i : Nat} {ds : List D} (e : s[i]? = some (some (.d (.lst ds)))) : mLs i s = some (ds, s) := by unfold mLs; rw [e]
theorem mLs_o {i : Nat} {ds : List D} (e : s[i]? = some (some (.own (.lst ds)))) : mLs i s = some (ds, s) := by unfold mLs; rw [e]
theorem w_ixO {i : Nat} {ds : List D} {d : D} {j : Int} (e : s[i]? = some (some (.own (.lst ds)))) (e2 : atI ds j = some d) (h : Q d s) : Wp (ixN i (retM (.int j))) s Q := w_bind ⟨ds, s, mLs_o e, w_bind (w_ret (w_bind ⟨ds, s, mLs_o e, w_opt e2 h⟩))⟩
theorem w_ixD {i : Nat} {ds : List D} {d : D} {j : Int} (e : s[i]? = some (some (.d (.lst ds)))) (e2 : atI ds j = some d) (h : Q d s) : Wp (ixN i (retM (.int j))) s Q := w_bind ⟨ds, s, mLs_d e, w_bind (w_ret (w_bind ⟨ds, s, mLs_d e, w_opt e2 h⟩))⟩
theorem w_lenO {i : Nat} {ds : List D} (e : s[i]? = some (some (.own (.lst ds)))) (h : Q (.int ds.length) s) : Wp (lenN i) s Q := w_bind ⟨ds, s, mLs_o e, w_ret h⟩
end
section
variable {s : S} {Q : Out → Prop} {a b : MS} {m : M D} {mo : M O} {c : M Bool}
theorem WS.mono {Q' : Out → Prop} (h : WS a s Q) (q : ∀ o, Q o → Q' o) : WS a s Q' := by
  obtain ⟨o, e, z⟩ := h
  exact ⟨o, e, q o z⟩
theorem v_seq (h : WS a s (thenO (fun s1 => WS b s1 Q) Q)) : WS (seqM a b) s Q := by
  obtain ⟨o, e, z⟩ := h
  cases o with
  | nx s1 =>
    obtain ⟨o2, e2, q⟩ := z
    exact ⟨o2, by unfold seqM; rw [e]; exact e2, q⟩
  | _ => exact ⟨_, by unfold seqM; rw [e]; rfl, z⟩
theorem v_nx (h : Q (.nx s)) : WS nxM s Q := ⟨_, rfl, h⟩
theorem v_ret (h : Wp m s fun d s1 => Q (.rd d s1)) : WS (retMS m) s Q := by
  obtain ⟨d, s1, e, q⟩ := h
  exact ⟨_, by unfold retMS; rw [e]; rfl, q⟩
theorem v_retO (h : Wp mo s fun d s1 => Q (.ro d s1)) : WS (retOS mo) s Q := by
  obtain ⟨d, s1, e, q⟩ := h
  exact ⟨_, by unfold retOS; rw [e]; rfl, q⟩
theorem v_if (h : Wp c s fun k s1 => iteB k (WS a s1 Q) (WS b s1 Q)) : WS (ifS c a b) s Q := by
  obtain ⟨k, s1, e, z⟩ := h
  cases k with
  | true => obtain ⟨o, e2, q⟩ := z; exact ⟨o, by unfold ifS; rw [e]; exact e2, q⟩
  | false => obtain ⟨o, e2, q⟩ := z; exact ⟨o, by unfold ifS; rw [e]; exact e2, q⟩
theorem v_asgF {f : D → S → Option S} (h : Wp m s fun d s1 => ∃ s2, f d s1 = some s2 ∧ Q (.nx s2)) : WS (asgM m f) s Q := by
  obtain ⟨d, s1, e, s2, e2, q⟩ := h
  exact ⟨_, by unfold asgM; rw [e]; show Option.map _ (f d s1) = _; rw [e2]; rfl, q⟩
theorem v_asg {i : Nat} (h : Wp m s fun d s1 => Q (.nx (s1.set i (some (.d d))))) : WS (asgM m (setF i)) s Q := v_asgF (h.mono fun d s1 z => ⟨_, rfl, z⟩)
theorem v_asgO {i : Nat} (h : Wp mo s fun o s1 => Q (.nx (s1.set i (some (.own o))))) : WS (asgO mo i) s Q := by
  obtain ⟨d, s1, e, q⟩ := h
  exact ⟨_, by unfold asgO; rw [e]; rfl, q⟩
theorem v_drop (h : Wp m s fun d s1 => Q (.nx s1)) : WS (dropM m) s Q := by
  obtain ⟨d, s1, e, q⟩ := h
  exact ⟨_, by unfold dropM; rw [e]; rfl, q⟩
theorem v_par {i j : Nat} {ms : M (List D)} (h : Wp ms s fun ds s1 => ∃ x y, ds = [x, y] ∧ Q (.nx ((s1.set i (some (.d x))).set j (some (.d y))))) : WS (parM i j ms) s Q := by
  obtain ⟨ds, s1, e, x, y, rfl, q⟩ := h
  exact ⟨_, by unfold parM; rw [e]; rfl, q⟩
theorem v_put {i : Nat} {mi : M D} (h : Wp m s fun d s1 => ∃ ds, s1[i]? = some (some (.own (.lst ds))) ∧ Wp mi s1 fun j s2 => ∃ es n k, s2[i]? = some (some (.own (.lst es))) ∧ j = .int n ∧ L2.ixN es.length n = some k ∧ Q (.nx (s2.set i (some (.own (.lst (es.set k d))))))) : WS (putN i mi m) s Q := by
  obtain ⟨d, s1, e, ds, e1, j, s2, e2, es, n, k, e3, rfl, e4, q⟩ := h
  have e4 : putN.ixN' es.length n = some k := e4
  refine ⟨_, ?_, q⟩
  unfold putN
  simp only [bindM, e, Option.bind, mOwn, e1, e2, e3, optM, intD, e4, mPut, Option.map]
end
/-! loops -/
section
variable {Q : Out → Prop} {asg : D → S → Option S} {b : MS}
theorem loopM_cons {d : D} {ds : List D} {s : S} : loopM asg b (d :: ds) s = (asg d s).bind fun s1 => (b s1).bind fun o => match o with
    | .nx s2 => loopM asg b ds s2
    | .ct s2 => loopM asg b ds s2
    | .bk s2 => some (.nx s2)
    | r => some r := rfl
/-- items one behind another; inv: what holds before each of them -/
theorem loop_ok {inv : List D → S → Prop} (step : ∀ d ds s, inv (d :: ds) s → ∃ s1, asg d s = some s1 ∧ WS b s1 fun o => match o with
    | .nx s2 => inv ds s2
    | .ct s2 => inv ds s2
    | .bk s2 => Q (.nx s2)
    | r => Q r) (done : ∀ s, inv [] s → Q (.nx s)) : ∀ (ds : List D) (s : S), inv ds s → WS (loopM asg b ds) s Q
  | [], s, h => ⟨_, rfl, done s h⟩
  | d :: ds, s, h => by
    obtain ⟨s1, e1, o, e2, z⟩ := step d ds s h
    have go : ∀ s2, inv ds s2 → WS (loopM asg b ds) s2 Q := loop_ok step done ds
    cases o with
    | nx s2 => obtain ⟨o, e, q⟩ := go s2 z; exact ⟨o, by rw [loopM_cons, e1]; show (b s1).bind _ = _; rw [e2]; exact e, q⟩
    | ct s2 => obtain ⟨o, e, q⟩ := go s2 z; exact ⟨o, by rw [loopM_cons, e1]; show (b s1).bind _ = _; rw [e2]; exact e, q⟩
    | bk s2 => exact ⟨_, by rw [loopM_cons, e1]; show (b s1).bind _ = _; rw [e2]; rfl, z⟩
    | rd d s2 => exact ⟨_, by rw [loopM_cons, e1]; show (b s1).bind _ = _; rw [e2]; rfl, z⟩
    | ro d s2 => exact ⟨_, by rw [loopM_cons, e1]; show (b s1).bind _ = _; rw [e2]; rfl, z⟩
theorem v_forR {s : S} {ms : M (List D)} {rng : List D → Option (List D)} (h : Wp ms s fun xs s1 => ∃ ds, rng xs = some ds ∧ WS (loopM asg b ds) s1 Q) : WS (forR ms rng asg b) s Q := by
  obtain ⟨xs, s1, e, ds, e1, o, e2, q⟩ := h
  exact ⟨o, by unfold forR; rw [e]; show (rng xs).bind _ = _; rw [e1]; exact e2, q⟩
theorem v_forL {s : S} {mi : M D} (h : Wp mi s fun x s1 => ∃ ds, itD x = some ds ∧ WS (loopM asg b ds) s1 Q) : WS (forL mi asg b) s Q := by
  obtain ⟨xs, s1, e, ds, e1, o, e2, q⟩ := h
  exact ⟨o, by unfold forL; rw [e]; show (itD xs).bind _ = _; rw [e1]; exact e2, q⟩
end
/-! comprehensions: each item's value by its own -/
section
variable {vs : List Nat} {asg : D → S → Option S} {c : M Bool} {elt : M D}
theorem comp_ok {inv : List D → List D → S → Prop} (step : ∀ d ds acc s, inv (d :: ds) acc s → ∃ s1, asg d s = some s1 ∧ Wp c s1 fun k s2 => iteB k (Wp elt s2 fun y s3 => acc.length < sizeLine ∧ inv ds (acc ++ [y]) (wipeS vs s3)) (inv ds acc (wipeS vs s2))) :
    ∀ (ds acc : List D) (s : S), inv ds acc s → ∃ r, compL vs asg c elt ds acc s = some r ∧ inv [] r.1 r.2
  | [], acc, s, h => ⟨(acc, s), rfl, h⟩
  | d :: ds, acc, s, h => by
    obtain ⟨s1, e1, k, s2, e2, z⟩ := step d ds acc s h
    unfold compL
    rw [e1]
    show ∃ r, (c s1).bind _ = some r ∧ _
    rw [e2]
    cases k with
    | false => exact comp_ok step ds acc _ z
    | true =>
      obtain ⟨y, s3, e3, l, z⟩ := z
      obtain ⟨r, e4, q⟩ := comp_ok step ds _ _ z
      refine ⟨r, ?_, q⟩
      show (elt s2).bind _ = some r
      rw [e3]
      show (if acc.length < sizeLine then _ else none) = some r
      rw [if_pos l]
      exact e4
theorem w_comp {Q : O → S → Prop} {s : S} {items : List D} {inv : List D → List D → S → Prop} (hn : noOwn vs s = true) (h0 : inv items [] (wipeS vs s))
    (step : ∀ d ds acc s, inv (d :: ds) acc s → ∃ s1, asg d s = some s1 ∧ Wp c s1 fun k s2 => iteB k (Wp elt s2 fun y s3 => acc.length < sizeLine ∧ inv ds (acc ++ [y]) (wipeS vs s3)) (inv ds acc (wipeS vs s2)))
    (done : ∀ acc s2, inv [] acc s2 → Q (.lst acc) (restS s vs s2)) : Wp (compM vs asg c elt items) s Q := by
  obtain ⟨r, e, q⟩ := comp_ok step items [] _ h0
  exact ⟨.lst r.1, _, by unfold compM; rw [if_pos hn, e]; rfl, done _ _ q⟩
theorem w_cplR {Q : O → S → Prop} {s : S} {ms : M (List D)} {rng : List D → Option (List D)} (h : Wp ms s fun xs s1 => ∃ ds, rng xs = some ds ∧ Wp (compM vs asg c elt ds) s1 Q) : Wp (cplR ms rng vs asg c elt) s Q := by
  obtain ⟨xs, s1, e, ds, e1, o, s2, e2, q⟩ := h
  exact ⟨o, s2, by unfold cplR; rw [e]; show (rng xs).bind _ = _; rw [e1]; exact e2, q⟩
theorem w_cplL {Q : O → S → Prop} {s : S} {mi : M D} (h : Wp mi s fun x s1 => ∃ ds, itD x = some ds ∧ Wp (compM vs asg c elt ds) s1 Q) : Wp (cplL mi vs asg c elt) s Q := by
  obtain ⟨xs, s1, e, ds, e1, o, s2, e2, q⟩ := h
  exact ⟨o, s2, by unfold cplL; rw [e]; show (itD xs).bind _ = _; rw [e1]; exact e2, q⟩
end
/-! calls: by what the body comes to -/
section
variable {n : Nat} {body : MS} {s : S} {Q : D → S → Prop} {ms : M (List D)}
theorem w_callD {dd : List D} (h : Wp ms s fun xs s1 => WS body (startS n ((xs ++ dd).map .d)) fun o => match o with
    | .rd d _ => Q d s1
    | .nx _ => Q .non s1
    | _ => False) : Wp (callD n body ms dd) s Q := by
  obtain ⟨xs, s1, e, o, e1, q⟩ := h
  cases o with
  | rd d s2 => exact ⟨d, s1, by unfold callD callR; rw [e]; show (body _).bind _ = _; rw [e1]; rfl, q⟩
  | nx s2 => exact ⟨_, s1, by unfold callD callR; rw [e]; show (body _).bind _ = _; rw [e1]; rfl, q⟩
  | _ => exact q.elim
theorem w_callO {QO : O → S → Prop} {dd : List D} (h : Wp ms s fun xs s1 => WS body (startS n ((xs ++ dd).map .d)) fun o => match o with
    | .ro d _ => QO d s1
    | _ => False) : Wp (callO n body ms dd) s QO := by
  obtain ⟨xs, s1, e, o, e1, q⟩ := h
  cases o with
  | ro d s2 => exact ⟨d, s1, by unfold callO callR; rw [e]; show (body _).bind _ = _; rw [e1]; rfl, q⟩
  | _ => exact q.elim
theorem w_lendD {i : Nat} {o0 : O} (e0 : slotO i s = some o0) (h : Wp ms s fun xs s1 => ∃ o1, slotO i s1 = some o1 ∧ WS body (startS n (.own o1 :: xs.map .d)) fun o => match o with
    | .rd d s2 => ∃ o', firstO s2 = some o' ∧ Q d (s1.set i (some (.own o')))
    | .nx s2 => ∃ o', firstO s2 = some o' ∧ Q .non (s1.set i (some (.own o')))
    | _ => False) : Wp (lendD n body i ms) s Q := by
  obtain ⟨xs, s1, e, o1, e2, o, e1, q⟩ := h
  cases o with
  | rd d s2 => obtain ⟨o', e3, q⟩ := q; exact ⟨d, _, by unfold lendD callR; rw [e0]; show (ms s).bind _ = _; rw [e]; show (slotO i s1).bind _ = _; rw [e2]; show (body _).bind _ = _; rw [e1]; show (firstO s2).map _ = _; rw [e3]; rfl, q⟩
  | nx s2 => obtain ⟨o', e3, q⟩ := q; exact ⟨_, _, by unfold lendD callR; rw [e0]; show (ms s).bind _ = _; rw [e]; show (slotO i s1).bind _ = _; rw [e2]; show (body _).bind _ = _; rw [e1]; show (firstO s2).map _ = _; rw [e3]; rfl, q⟩
  | _ => exact q.elim
theorem w_giveD {mo : M O} (h : Wp mo s fun o1 s1 => WS body (startS n [.own o1]) fun o => match o with
    | .rd d _ => Q d s1
    | .nx _ => Q .non s1
    | _ => False) : Wp (giveD n body mo) s Q := by
  obtain ⟨xs, s1, e, o, e1, q⟩ := h
  cases o with
  | rd d s2 => exact ⟨d, s1, by unfold giveD callR; rw [e]; show (body _).bind _ = _; rw [e1]; rfl, q⟩
  | nx s2 => exact ⟨_, s1, by unfold giveD callR; rw [e]; show (body _).bind _ = _; rw [e1]; rfl, q⟩
  | _ => exact q.elim
end
theorem w_binO {f : D → D → Option O} {a b : M D} {s : S} {Q : O → S → Prop} (h : Wp a s fun x s1 => Wp b s1 fun y s2 => Wp (optM (f x y)) s2 Q) : Wp (mBinO f a b) s Q := w_bind (h.mono fun _ _ z => w_bind z)
theorem w_own {n : Nat} {body : MS} {s : S} {Q : D → S → Prop} {ms : M (List D)} {d : D} {as : List D} (o : ownM n body as = some d) (h : Wp ms s fun xs s1 => xs = as ∧ Q d s1) : Wp (callD n body ms []) s Q := by
  obtain ⟨xs, s1, e, rfl, q⟩ := h
  unfold ownM at o
  simp only [Option.bind_eq_some_iff] at o
  obtain ⟨r, e2, o⟩ := o
  refine w_callD ⟨xs, s1, e, r, by rw [List.append_nil]; exact e2, ?_⟩
  cases r with
  | rd x s2 => cases o; exact q
  | nx s2 => cases o; exact q
  | _ => cases o
/-! comprehensions that leave all as it is -/
section
variable {α β : Type} {vs vs1 : List Nat} {asg asg1 : D → S → Option S} {c c1 : M Bool} {elt : M D} {s0 : S}
theorem comp_fun {e : α → D} {p : α → Bool} {f : α → D} : ∀ (xs : List α) (acc : List D), (∀ a ∈ xs, ∃ s1, asg (e a) s0 = some s1 ∧ Wp c s1 fun k s2 => k = p a ∧ iteB k (Wp elt s2 fun y s3 => y = f a ∧ wipeS vs s3 = s0) (wipeS vs s2 = s0)) → acc.length + xs.length ≤ sizeLine →
    compL vs asg c elt (xs.map e) acc s0 = some (acc ++ (xs.filter p).map f, s0)
  | [], acc, _, _ => by simp [compL]
  | a :: xs, acc, h, l => by
    obtain ⟨s1, e1, k, s2, e2, hk, z⟩ := h a (by simp)
    have ih := fun acc l => comp_fun (e := e) (p := p) (f := f) xs acc (fun y hy => h y (by simp [hy])) l
    simp only [List.length_cons] at l
    show (asg (e a) s0).bind _ = _
    rw [e1, Option.bind_some, e2, Option.bind_some]
    cases k with
    | false =>
      show compL vs asg c elt (xs.map e) acc (wipeS vs s2) = _
      have z : wipeS vs s2 = s0 := z
      rw [z, ih acc (by omega), List.filter_cons_of_neg (by rw [← hk]; decide)]
    | true =>
      obtain ⟨y, s3, e3, rfl, z⟩ := z
      show (elt s2).bind _ = _
      rw [e3, Option.bind_some]
      show (if acc.length < sizeLine then compL vs asg c elt (xs.map e) (acc ++ [f a]) (wipeS vs s3) else none) = _
      rw [if_pos (by omega), z, ih (acc ++ [f a]) (by simp; omega), List.filter_cons_of_pos (by rw [← hk]), List.map_cons, List.append_assoc, List.singleton_append]
theorem w_compF {e : α → D} {p : α → Bool} {f : α → D} {s : S} {Q : O → S → Prop} {items : List D} (xs : List α) (hi : items = xs.map e) (hn : noOwn vs s = true) (l : xs.length ≤ sizeLine)
    (h : ∀ a ∈ xs, ∃ s1, asg (e a) (wipeS vs s) = some s1 ∧ Wp c s1 fun k s2 => k = p a ∧ iteB k (Wp elt s2 fun y s3 => y = f a ∧ wipeS vs s3 = wipeS vs s) (wipeS vs s2 = wipeS vs s)) (q : Q (.lst ((xs.filter p).map f)) (restS s vs (wipeS vs s))) : Wp (compM vs asg c elt items) s Q := by
  subst hi
  refine ⟨.lst ((xs.filter p).map f), restS s vs (wipeS vs s), ?_, q⟩
  unfold compM
  rw [if_pos hn, comp_fun (e := e) (p := p) (f := f) xs [] h (by simpa using l)]
  simp
end
theorem thenO_nx {k : S → Prop} {Q : Out → Prop} {s : S} (h : k s) : thenO k Q (.nx s) := h
theorem thenO_rd {k : S → Prop} {Q : Out → Prop} {d : D} {s : S} (h : Q (.rd d s)) : thenO k Q (.rd d s) := h
theorem thenO_ro {k : S → Prop} {Q : Out → Prop} {d : O} {s : S} (h : Q (.ro d s)) : thenO k Q (.ro d s) := h
theorem w_slM {α : Type} {f : D → Option Int → Option Int → Option α} {a : M D} {l u : M (Option Int)} {s : S} {Q : α → S → Prop} (h : Wp a s fun x s1 => Wp l s1 fun lo s2 => Wp u s2 fun hi s3 => Wp (optM (f x lo hi)) s3 Q) : Wp (slM f a l u) s Q := w_bind (h.mono fun _ _ z => w_bind (z.mono fun _ _ z => w_bind z))
theorem w_chM {f g : D → D → Option D} {a b c : M D} {s : S} {Q : D → S → Prop} (h : Wp a s fun x s1 => Wp b s1 fun y s2 => ∃ k, f x y = some (.bl k) ∧ iteB k (Wp c s2 fun z s3 => Wp (optM (g y z)) s3 Q) (Q (.bl false) s2)) : Wp (chM f g a b c) s Q :=
  w_bind (h.mono fun x s1 z => w_bind (z.mono fun y s2 ⟨k, e, q⟩ => w_bind (w_opt e (by cases k; exact w_ret q; exact w_bind q))))
theorem iteB_tt {k : Bool} {A B : Prop} (e : k = true) (h : A) : iteB k A B := by subst e; exact h
theorem iteB_ff {k : Bool} {A B : Prop} (e : k = false) (h : B) : iteB k A B := by subst e; exact h
theorem shaped_str {x : Str} : SeqAt.shaped (.str x) = PyData.strOk x := by unfold SeqAt.shaped; simp [PyData.canLay0, PyData.depth]
theorem w_eqS {neg : Bool} {a b : Str} {s : S} {Q : D → S → Prop} (ha : PyData.strOk a = true) (hb : PyData.strOk b = true) (h : Q (.bl (neg ^^ (a == b))) s) : Wp (optM (eqD neg (.str a) (.str b))) s Q := by
  refine w_opt ?_ h
  show (if SeqAt.shaped (.str a) = true ∧ SeqAt.shaped (.str b) = true then some (D.bl (neg ^^ PyData.eqv (.str a) (.str b))) else none) = _
  rw [if_pos ⟨shaped_str.trans ha, shaped_str.trans hb⟩]
  simp only [PyData.eqv]
theorem v_par3 {i j k : Nat} {ms : M (List D)} {s : S} {Q : Out → Prop} (h : Wp ms s fun ds s1 => ∃ x y z, ds = [x, y, z] ∧ Q (.nx (((s1.set i (some (.d x))).set j (some (.d y))).set k (some (.d z))))) : WS (parM3 i j k ms) s Q := by
  obtain ⟨ds, s1, e, x, y, z, rfl, q⟩ := h
  exact ⟨_, by unfold parM3; rw [e]; rfl, q⟩
end Fli
set_option Elab.async false
set_option linter.all false
set_option maxRecDepth 100000
set_option maxHeartbeats 4000000
namespace Fli
open PySem L2
def Bag (o : O) : Prop := ∃ a b c : Int, o = .lst [.int a, .int b, .int c]
theorem fmod_lt {a b : Int} (h : 0 < b) : 0 ≤ a.fmod b ∧ a.fmod b < b := ⟨Int.fmod_nonneg_of_pos a h, Int.fmod_lt_of_pos a h⟩
end Fli
set_option Elab.async false
set_option linter.all false
set_option maxRecDepth 100000
set_option maxHeartbeats 4000000
namespace Fli
open PySem L2
theorem atI_lt {α : Type} {xs : List α} {i : Int} (h0 : 0 ≤ i) (h1 : i < xs.length) : ∃ a, atI xs i = some a ∧ a ∈ xs := by
  have l : i.toNat < xs.length := by omega
  refine ⟨xs[i.toNat], ?_, List.getElem_mem l⟩
  unfold atI L2.ixN
  rw [if_pos h0, if_pos h1]
  show xs[i.toNat]? = _
  rw [List.getElem?_eq_getElem l]
end Fli
set_option Elab.async false
set_option linter.all false
set_option maxRecDepth 100000
set_option maxHeartbeats 1000000
namespace Fli
open PySem L2
/-! equality of texts and numbers -/
def SIG : List Str := ["+", "-"]
def LitW : List Str := ["either", "needs", "bars"]
def NamW : List Str := ["same", "unlike"]
def IsLit (xs : List Str) (d : D) : Prop := ∃ x ∈ xs, ∃ g ∈ SIG, d = .tup [.str x, .str g]
def IsRule (xs : List Str) (d : D) : Prop := (∃ l, IsLit xs l ∧ d = .tup [.str "be", l]) ∨ (∃ w ∈ LitW, ∃ x ∈ xs, ∃ y ∈ xs, ∃ g ∈ SIG, ∃ k ∈ SIG, x ≠ y ∧ d = .tup [.str w, .tup [.str x, .str g], .tup [.str y, .str k]]) ∨
  (∃ w ∈ NamW, ∃ x ∈ xs, ∃ y ∈ xs, x ≠ y ∧ d = .tup [.str w, .str x, .str y])
end Fli
set_option Elab.async false
set_option linter.all false
set_option maxRecDepth 100000
set_option maxHeartbeats 1000000
namespace Fli
open PySem L2
end Fli
set_option Elab.async false
set_option linter.all false
set_option maxRecDepth 100000
set_option maxHeartbeats 1000000
namespace Fli
open PySem L2
local macro_rules | `(tactic| array_get_dec) => `(tactic| (repeat (first | ((with_reducible change WS _ _ _); first | with_reducible refine v_seq ?_ | with_reducible refine v_nx ?_ | with_reducible refine v_ret ?_ | with_reducible refine v_retO ?_ | with_reducible refine v_if ?_ | with_reducible refine v_asg ?_ | with_reducible refine v_asgO ?_ | with_reducible refine v_asgF ?_ | with_reducible refine v_drop ?_ | with_reducible refine v_par ?_ | with_reducible refine v_par3 ?_ | with_reducible refine v_put ?_) | ((with_reducible change Wp (optM _) _ _); first | ((with_reducible show Wp (optM (blD _)) _ _); refine w_opt rfl ?_) | ((with_reducible show Wp (optM (truD _)) _ _); refine w_opt rfl ?_) | ((with_reducible refine w_eqS ?_ ?_ ?_); (first | assumption | decide +kernel); (first | assumption | decide +kernel)) | ((with_reducible refine w_tupM ?_ ?_); exact of_decide_eq_true rfl) | ((with_reducible refine w_lstM ?_ ?_); exact of_decide_eq_true rfl) | with_reducible refine w_tupM ?_ ?_ | with_reducible refine w_lstM ?_ ?_ | ((with_reducible refine w_mul ?_ ?_); first | exact Or.inl ⟨of_decide_eq_true rfl, of_decide_eq_true rfl⟩ | exact Or.inr ⟨of_decide_eq_true rfl, of_decide_eq_true rfl⟩) | ((with_reducible refine w_mod ?_ ?_); exact of_decide_eq_true rfl) | ((with_reducible refine w_div ?_ ?_); exact ⟨of_decide_eq_true rfl, of_decide_eq_true rfl⟩) | ((with_reducible refine w_pow ?_ ?_); exact ⟨of_decide_eq_true rfl, of_decide_eq_true rfl, of_decide_eq_true rfl⟩) | with_reducible refine w_mul ?_ ?_ | with_reducible refine w_div ?_ ?_ | with_reducible refine w_mod ?_ ?_ | with_reducible refine w_pow ?_ ?_ | ((with_reducible show Wp (optM _) _ _); refine w_opt rfl ?_)) | ((with_reducible change Wp _ _ _); first | with_reducible refine w_bind ?_ | with_reducible refine w_bin ?_ | with_reducible refine w_binO ?_ | with_reducible refine w_ret ?_ | with_reducible refine w_ifM ?_ | with_reducible refine w_andB ?_ | with_reducible refine w_orB ?_ | with_reducible refine w_andV ?_ | with_reducible refine w_orV ?_ | with_reducible refine w_slM ?_ | with_reducible refine w_chM ?_ | ((with_reducible show Wp (mVar _) _ _); refine w_var rfl ?_) | ((with_reducible show Wp (ixN _ _) _ _); first | refine w_ixO rfl rfl ?_ | refine w_ixD rfl rfl ?_) | ((with_reducible show Wp (lenN _) _ _); refine w_lenO rfl ?_) | ((with_reducible show Wp (frzN _) _ _); first | refine w_frzO rfl ?_ | refine w_frzD rfl ?_)) | ((with_reducible change thenO _ _ _); first | with_reducible refine thenO_nx ?_ | with_reducible refine thenO_rd ?_ | with_reducible refine thenO_ro ?_) | ((with_reducible change iteB _ _ _); first | with_reducible refine iteB_t ?_ | with_reducible refine iteB_f ?_ | ((with_reducible refine iteB_tt ?_ ?_); decide +kernel) | ((with_reducible refine iteB_ff ?_ ?_); decide +kernel) | ((with_reducible refine iteB_tt ?_ ?_); assumption) | ((with_reducible refine iteB_ff ?_ ?_); assumption) | ((with_reducible show iteB _ _ _); first | refine iteB_tt rfl ?_ | refine iteB_ff rfl ?_)) | ((with_reducible show ∃ k, truD _ = some k ∧ iteB k _ _); refine ⟨_, rfl, ?_⟩) | ((with_reducible show ∃ k, cmpD _ _ _ = some (D.bl k) ∧ iteB k _ _); refine ⟨_, rfl, ?_⟩) | ((with_reducible show iteB _ _ _); first | refine iteB_tt rfl ?_ | refine iteB_ff rfl ?_) | ((with_reducible show Wp (mVar _) _ _); refine w_var rfl ?_) | ((with_reducible show Wp (ixN _ _) _ _); first | refine w_ixO rfl rfl ?_ | refine w_ixD rfl rfl ?_) | ((with_reducible show Wp (lenN _) _ _); refine w_lenO rfl ?_) | ((with_reducible show Wp (frzN _) _ _); first | refine w_frzO rfl ?_ | refine w_frzD rfl ?_) | ((with_reducible show Wp (optM _) _ _); refine w_opt rfl ?_))))
def letters : Str := "abcdefghijklmnopqrstuvwxyz"
def words : List V := [.str "be", .str "either", .str "needs", .str "bars", .str "same", .str "unlike"]
structure Nm (x : Str) : Prop where
  w : inV (.str x) words = false
  lo : 1 ≤ x.length
  hi : x.length ≤ 8
  ls : ∀ c ∈ x.cps.toList, c ∈ letters.cps.toList
  ok : PyData.strOk x = true
instance (x : Str) : Decidable (Nm x) := decidable_of_iff (inV (.str x) words = false ∧ 1 ≤ x.length ∧ x.length ≤ 8 ∧ (∀ c ∈ x.cps.toList, c ∈ letters.cps.toList) ∧ PyData.strOk x = true) ⟨fun ⟨a, b, c, d, e⟩ => ⟨a, b, c, d, e⟩, fun ⟨a, b, c, d, e⟩ => ⟨a, b, c, d, e⟩⟩
theorem bls_true : ∀ {ds : List D}, (∀ d ∈ ds, d = .bl true) → ∃ bs, blsD ds = some bs ∧ bs.all id = true
  | [], _ => ⟨[], rfl, rfl⟩
  | d :: ds, h => by
    obtain ⟨bs, e, a⟩ := bls_true (ds := ds) fun y hy => h y (List.mem_cons_of_mem _ hy)
    obtain rfl := h d (by simp)
    exact ⟨true :: bs, by show (blsD ds).map _ = _; rw [e]; rfl, by simpa using a⟩
theorem cut_to {α : Type} {xs : List α} {k : Nat} (h : k ≤ xs.length) : cutD xs none (some (k : Int)) = xs.take k := by
  unfold cutD
  rw [HT.sIx_nat, HT.sIx_none, List.drop_zero, Nat.sub_zero, Nat.min_eq_left h]
end Fli
set_option Elab.async false
set_option linter.all false
set_option maxRecDepth 100000
set_option maxHeartbeats 1000000
namespace Fli
open PySem L2
/-! equality of texts, tuples and lists of them -/
end Fli
set_option Elab.async false
set_option linter.all false
set_option maxRecDepth 100000
set_option maxHeartbeats 1000000
namespace Fli
open PySem L2
local macro_rules | `(tactic| array_get_dec) => `(tactic| (repeat (first | ((with_reducible change WS _ _ _); first | with_reducible refine v_seq ?_ | with_reducible refine v_nx ?_ | with_reducible refine v_ret ?_ | with_reducible refine v_retO ?_ | with_reducible refine v_if ?_ | with_reducible refine v_asg ?_ | with_reducible refine v_asgO ?_ | with_reducible refine v_asgF ?_ | with_reducible refine v_drop ?_ | with_reducible refine v_par ?_ | with_reducible refine v_par3 ?_ | with_reducible refine v_put ?_) | ((with_reducible change Wp (optM _) _ _); first | ((with_reducible show Wp (optM (blD _)) _ _); refine w_opt rfl ?_) | ((with_reducible show Wp (optM (truD _)) _ _); refine w_opt rfl ?_) | ((with_reducible refine w_eqS ?_ ?_ ?_); (first | assumption | decide +kernel); (first | assumption | decide +kernel)) | ((with_reducible refine w_tupM ?_ ?_); exact of_decide_eq_true rfl) | ((with_reducible refine w_lstM ?_ ?_); exact of_decide_eq_true rfl) | with_reducible refine w_tupM ?_ ?_ | with_reducible refine w_lstM ?_ ?_ | ((with_reducible refine w_mul ?_ ?_); first | exact Or.inl ⟨of_decide_eq_true rfl, of_decide_eq_true rfl⟩ | exact Or.inr ⟨of_decide_eq_true rfl, of_decide_eq_true rfl⟩) | ((with_reducible refine w_mod ?_ ?_); exact of_decide_eq_true rfl) | ((with_reducible refine w_div ?_ ?_); exact ⟨of_decide_eq_true rfl, of_decide_eq_true rfl⟩) | ((with_reducible refine w_pow ?_ ?_); exact ⟨of_decide_eq_true rfl, of_decide_eq_true rfl, of_decide_eq_true rfl⟩) | with_reducible refine w_mul ?_ ?_ | with_reducible refine w_div ?_ ?_ | with_reducible refine w_mod ?_ ?_ | with_reducible refine w_pow ?_ ?_ | ((with_reducible show Wp (optM _) _ _); refine w_opt rfl ?_)) | ((with_reducible change Wp _ _ _); first | with_reducible refine w_bind ?_ | with_reducible refine w_bin ?_ | with_reducible refine w_binO ?_ | with_reducible refine w_ret ?_ | with_reducible refine w_ifM ?_ | with_reducible refine w_andB ?_ | with_reducible refine w_orB ?_ | with_reducible refine w_andV ?_ | with_reducible refine w_orV ?_ | with_reducible refine w_slM ?_ | with_reducible refine w_chM ?_ | ((with_reducible show Wp (mVar _) _ _); refine w_var rfl ?_) | ((with_reducible show Wp (ixN _ _) _ _); first | refine w_ixO rfl rfl ?_ | refine w_ixD rfl rfl ?_) | ((with_reducible show Wp (lenN _) _ _); refine w_lenO rfl ?_) | ((with_reducible show Wp (frzN _) _ _); first | refine w_frzO rfl ?_ | refine w_frzD rfl ?_)) | ((with_reducible change thenO _ _ _); first | with_reducible refine thenO_nx ?_ | with_reducible refine thenO_rd ?_ | with_reducible refine thenO_ro ?_) | ((with_reducible change iteB _ _ _); first | with_reducible refine iteB_t ?_ | with_reducible refine iteB_f ?_ | ((with_reducible refine iteB_tt ?_ ?_); decide +kernel) | ((with_reducible refine iteB_ff ?_ ?_); decide +kernel) | ((with_reducible refine iteB_tt ?_ ?_); assumption) | ((with_reducible refine iteB_ff ?_ ?_); assumption) | ((with_reducible show iteB _ _ _); first | refine iteB_tt rfl ?_ | refine iteB_ff rfl ?_)) | ((with_reducible show ∃ k, truD _ = some k ∧ iteB k _ _); refine ⟨_, rfl, ?_⟩) | ((with_reducible show ∃ k, cmpD _ _ _ = some (D.bl k) ∧ iteB k _ _); refine ⟨_, rfl, ?_⟩) | ((with_reducible show iteB _ _ _); first | refine iteB_tt rfl ?_ | refine iteB_ff rfl ?_) | ((with_reducible show Wp (mVar _) _ _); refine w_var rfl ?_) | ((with_reducible show Wp (ixN _ _) _ _); first | refine w_ixO rfl rfl ?_ | refine w_ixD rfl rfl ?_) | ((with_reducible show Wp (lenN _) _ _); refine w_lenO rfl ?_) | ((with_reducible show Wp (frzN _) _ _); first | refine w_frzO rfl ?_ | refine w_frzD rfl ?_) | ((with_reducible show Wp (optM _) _ _); refine w_opt rfl ?_))))
/-! panels -/
structure Pan (xs : List Str) (ds : List D) : Prop where
  l0 : 0 < xs.length
  l1 : xs.length ≤ 10
  nd : xs.Nodup
  nm : ∀ x ∈ xs, Nm x
  lr : ds.length ≤ 240
  ru : ∀ d ∈ ds, IsRule xs d
abbrev pan (xs : List Str) (ds : List D) : List (Str × D) := [("switches", .tup (xs.map D.str)), ("rules", .tup ds)]
abbrev panD (xs : List Str) (ds : List D) : D := .ins "Panel" (pan xs ds)
end Fli
set_option Elab.async false
set_option linter.all false
set_option maxRecDepth 100000
set_option maxHeartbeats 1000000
namespace Fli
open PySem L2
/-! literals, rules, settings, as they are meant -/
abbrev Lit := Str × Bool
def sgn : Bool → Str
  | true => "+"
  | false => "-"
inductive Ru where
  | be (l : Lit) | either (l m : Lit) | needs (l m : Lit) | bars (l m : Lit) | same (x y : Str) | unlike (x y : Str)
def dL (l : Lit) : D := .tup [.str l.1, .str (sgn l.2)]
def Ru.d : Ru → D
  | .be l => .tup [.str "be", dL l]
  | .either l m => .tup [.str "either", dL l, dL m]
  | .needs l m => .tup [.str "needs", dL l, dL m]
  | .bars l m => .tup [.str "bars", dL l, dL m]
  | .same x y => .tup [.str "same", .str x, .str y]
  | .unlike x y => .tup [.str "unlike", .str x, .str y]
def op (l : Lit) : Lit := (l.1, !l.2)
/-- of each pair one has to hold -/
def Ru.cl : Ru → List (Lit × Lit)
  | .be l => [(l, l)]
  | .either l m => [(l, m)]
  | .needs l m => [(op l, m)]
  | .bars l m => [(op l, op m)]
  | .same x y => [((x, false), (y, true)), ((x, true), (y, false))]
  | .unlike x y => [((x, true), (y, true)), ((x, false), (y, false))]
/-! texts of signs -/
/-! all settings, in their order -/
end Fli
set_option Elab.async false
set_option linter.all false
set_option maxRecDepth 100000
set_option maxHeartbeats 1000000
namespace Fli
open PySem L2
local macro_rules | `(tactic| array_mem_dec) => `(tactic| (repeat (first | ((with_reducible change WS _ _ _); first | with_reducible refine v_seq ?_ | with_reducible refine v_nx ?_ | with_reducible refine v_ret ?_ | with_reducible refine v_retO ?_ | with_reducible refine v_if ?_ | with_reducible refine v_asg ?_ | with_reducible refine v_asgO ?_ | with_reducible refine v_asgF ?_ | with_reducible refine v_drop ?_ | with_reducible refine v_par ?_ | with_reducible refine v_par3 ?_ | with_reducible refine v_put ?_) | ((with_reducible change Wp (optM _) _ _); first | ((with_reducible show Wp (optM (blD _)) _ _); refine w_opt rfl ?_) | ((with_reducible show Wp (optM (truD _)) _ _); refine w_opt rfl ?_) | ((with_reducible refine w_eqS ?_ ?_ ?_); (first | assumption | decide +kernel); (first | assumption | decide +kernel)) | ((with_reducible refine w_tupM ?_ ?_); exact of_decide_eq_true rfl) | ((with_reducible refine w_lstM ?_ ?_); exact of_decide_eq_true rfl) | with_reducible refine w_tupM ?_ ?_ | with_reducible refine w_lstM ?_ ?_ | ((with_reducible refine w_mul ?_ ?_); first | exact Or.inl ⟨of_decide_eq_true rfl, of_decide_eq_true rfl⟩ | exact Or.inr ⟨of_decide_eq_true rfl, of_decide_eq_true rfl⟩) | ((with_reducible refine w_mod ?_ ?_); exact of_decide_eq_true rfl) | ((with_reducible refine w_div ?_ ?_); exact ⟨of_decide_eq_true rfl, of_decide_eq_true rfl⟩) | ((with_reducible refine w_pow ?_ ?_); exact ⟨of_decide_eq_true rfl, of_decide_eq_true rfl, of_decide_eq_true rfl⟩) | with_reducible refine w_mul ?_ ?_ | with_reducible refine w_div ?_ ?_ | with_reducible refine w_mod ?_ ?_ | with_reducible refine w_pow ?_ ?_ | ((with_reducible show Wp (optM _) _ _); (fail_if_success (with_reducible show Wp (optM (lenC _ _ _ _)) _ _)); (fail_if_success (with_reducible show Wp (optM (truC _ _ _ _)) _ _)); (fail_if_success (with_reducible show Wp (optM (strC _ _ _ _)) _ _)); (fail_if_success (with_reducible show Wp (optM (eqO _ _ _ _ _)) _ _)); (fail_if_success (with_reducible show Wp (optM (neO _ _ _ _ _)) _ _)); (fail_if_success (with_reducible show Wp (optM (reprD _)) _ _)); (fail_if_success (with_reducible show Wp (optM (Option.map D.bl _)) _ _)); (fail_if_success (with_reducible show Wp (optM (ownM _ _ _)) _ _)); (fail_if_success (with_reducible show Wp (optM (methO _ _ _ _ _)) _ _)); (fail_if_success (with_reducible show Wp (optM (eqD _ _ _)) _ _)); refine w_opt rfl ?_)) | ((with_reducible change Wp _ _ _); first | with_reducible refine w_bind ?_ | with_reducible refine w_bin ?_ | with_reducible refine w_binO ?_ | with_reducible refine w_ret ?_ | with_reducible refine w_ifM ?_ | with_reducible refine w_andB ?_ | with_reducible refine w_orB ?_ | with_reducible refine w_andV ?_ | with_reducible refine w_orV ?_ | with_reducible refine w_slM ?_ | with_reducible refine w_chM ?_ | ((with_reducible show Wp (mVar _) _ _); refine w_var rfl ?_) | ((with_reducible show Wp (ixN _ _) _ _); first | refine w_ixO rfl rfl ?_ | refine w_ixD rfl rfl ?_) | ((with_reducible show Wp (lenN _) _ _); refine w_lenO rfl ?_) | ((with_reducible show Wp (frzN _) _ _); first | refine w_frzO rfl ?_ | refine w_frzD rfl ?_)) | ((with_reducible change thenO _ _ _); first | with_reducible refine thenO_nx ?_ | with_reducible refine thenO_rd ?_ | with_reducible refine thenO_ro ?_) | ((with_reducible change iteB _ _ _); first | with_reducible refine iteB_t ?_ | with_reducible refine iteB_f ?_ | ((with_reducible refine iteB_tt ?_ ?_); decide +kernel) | ((with_reducible refine iteB_ff ?_ ?_); decide +kernel) | ((with_reducible refine iteB_tt ?_ ?_); assumption) | ((with_reducible refine iteB_ff ?_ ?_); assumption) | ((with_reducible show iteB _ _ _); first | refine iteB_tt rfl ?_ | refine iteB_ff rfl ?_)) | ((with_reducible show ∃ k, truD _ = some k ∧ iteB k _ _); refine ⟨_, rfl, ?_⟩) | ((with_reducible show ∃ k, cmpD _ _ _ = some (D.bl k) ∧ iteB k _ _); refine ⟨_, rfl, ?_⟩) | ((with_reducible show iteB _ _ _); first | refine iteB_tt rfl ?_ | refine iteB_ff rfl ?_) | ((with_reducible show Wp (mVar _) _ _); refine w_var rfl ?_) | ((with_reducible show Wp (ixN _ _) _ _); first | refine w_ixO rfl rfl ?_ | refine w_ixD rfl rfl ?_) | ((with_reducible show Wp (lenN _) _ _); refine w_lenO rfl ?_) | ((with_reducible show Wp (frzN _) _ _); first | refine w_frzO rfl ?_ | refine w_frzD rfl ?_) | ((with_reducible show Wp (optM _) _ _); (fail_if_success (with_reducible show Wp (optM (lenC _ _ _ _)) _ _)); (fail_if_success (with_reducible show Wp (optM (truC _ _ _ _)) _ _)); (fail_if_success (with_reducible show Wp (optM (strC _ _ _ _)) _ _)); (fail_if_success (with_reducible show Wp (optM (eqO _ _ _ _ _)) _ _)); (fail_if_success (with_reducible show Wp (optM (neO _ _ _ _ _)) _ _)); (fail_if_success (with_reducible show Wp (optM (reprD _)) _ _)); (fail_if_success (with_reducible show Wp (optM (Option.map D.bl _)) _ _)); (fail_if_success (with_reducible show Wp (optM (ownM _ _ _)) _ _)); (fail_if_success (with_reducible show Wp (optM (methO _ _ _ _ _)) _ _)); (fail_if_success (with_reducible show Wp (optM (eqD _ _ _)) _ _)); refine w_opt rfl ?_))))
/-! jugs: what the laws of moving draw from -/
theorem v_dvm {i j : Nat} {k : Int} {ms : M (List D)} {s : S} {P : Out → Prop} (h : Wp ms s fun ds s1 => ∃ a b es n, ds = [.int a, .int b] ∧ 0 < b ∧ b < 1000000 ∧ s1[i]? = some (some (.own (.lst es))) ∧ L2.ixN es.length k = some n ∧ P (.nx ((s1.set i (some (.own (.lst (es.set n (.int (a / b))))))).set j (some (.d (.int (a % b))))))) : WS (dvmS i k j ms) s P := by
  obtain ⟨ds, s1, e1, a, b, es, n, rfl, h1, h2, h3, h4, q⟩ := h
  refine ⟨_, ?_, q⟩
  unfold dvmS
  rw [e1, Option.bind_some]
  show (if 0 < b ∧ b < 1000000 then (subF i k (.int (a / b)) s1).map _ else none) = _
  rw [if_pos ⟨h1, h2⟩]
  unfold subF
  rw [h3]
  show ((L2.ixN es.length k).map _).map _ = _
  rw [h4]
  rfl
theorem emod_lt {a b : Int} (h : 0 < b) : 0 ≤ a % b ∧ a % b < b := ⟨Int.emod_nonneg a (by omega), Int.emod_lt_of_pos a h⟩
theorem gulp_ok {o : O} {w : Int} (hb : Bag o) (h0 : 0 < w) (h1 : w < 1000000) : WS m__law_pour (startS 4 [.own o, .d (.int w)]) fun out => ∃ v s2 o', out = .rd (.int v) s2 ∧ firstO s2 = some o' ∧ Bag o' ∧ 0 ≤ v ∧ v < w := by
  obtain ⟨a, b, c, rfl⟩ := hb
  unfold m__law_pour
  array_mem_dec
  refine ⟨_, rfl, ?_⟩
  array_mem_dec
  refine ⟨_, _, _, rfl, rfl, rfl, ?_⟩
  array_mem_dec
  · have q := fmod_lt (a := b) (b := 18013) (by decide)
    exact .inr ⟨by omega, by omega⟩
  array_mem_dec
  refine ⟨_, rfl, ?_⟩
  array_mem_dec
  refine ⟨_, _, _, rfl, rfl, rfl, ?_⟩
  array_mem_dec
  refine iteB_by (fun _ => ?_) (fun _ => ?_)
  · refine v_seq (v_dvm ?_)
    array_mem_dec
    refine ⟨a, w, _, 0, rfl, h0, h1, rfl, rfl, ?_⟩
    array_mem_dec
    exact ⟨_, _, _, rfl, rfl, ⟨_, _, _, rfl⟩, emod_lt h0⟩
  · array_mem_dec
    · omega
    · exact ⟨_, _, _, rfl, rfl, ⟨_, _, _, rfl⟩, fmod_lt h0⟩
theorem w_gulp {s : S} {i : Nat} {o : O} {w : Int} {ms : M (List D)} {Q : D → S → Prop} (e0 : slotO i s = some o) (hb : Bag o) (h0 : 0 < w) (h1 : w < 1000000) (hm : Wp ms s fun xs s1 => xs = [.int w] ∧ s1 = s)
    (h : ∀ v o', Bag o' → 0 ≤ v → v < w → Q (.int v) (s.set i (some (.own o')))) : Wp (lendD 4 m__law_pour i ms) s Q := by
  refine w_lendD e0 (hm.mono fun xs s1 ⟨e1, e2⟩ => ?_)
  subst e1
  subst e2
  refine ⟨o, e0, (gulp_ok hb h0 h1).mono fun out ⟨v, s2, o', e, e3, b, l1, l2⟩ => ?_⟩
  subst e
  exact ⟨o', e3, h v o' b l1 l2⟩
theorem w_some {s : S} {o : O} {xs : List D} {ms : M (List D)} {Q : D → S → Prop} (e0 : slotO 0 s = some o) (hb : Bag o) (hx : xs ≠ []) (hl : xs.length < 1000000) (hm : Wp ms s fun ys s1 => ys = [.lst xs] ∧ s1 = s)
    (h : ∀ v o', Bag o' → v ∈ xs → Q v (s.set 0 (some (.own o')))) : Wp (lendD 2 m__law_of 0 ms) s Q := by
  refine w_lendD e0 (hm.mono fun ys s1 ⟨e1, e2⟩ => ?_)
  subst e1
  subst e2
  refine ⟨o, e0, ?_⟩
  unfold m__law_of
  array_mem_dec
  refine w_gulp rfl hb (w := xs.length) (by cases xs with | nil => exact absurd rfl hx | cons _ _ => simp only [List.length_cons]; omega) (by omega) ?_ ?_
  · array_mem_dec
    exact ⟨rfl, rfl⟩
  · intro v o' b h1 h2
    obtain ⟨y, e, hy⟩ := atI_lt h1 h2
    refine w_opt e ?_
    exact ⟨_, rfl, h y o' b hy⟩
def jugR : MS := (seqM (asgM (mBin addL (retM (.int 71011)) (mBin mulD (retM (.int 907)) (mVar 1))) (setF 3))
  (seqM (forL (mBin addL (slM slL (mVar 0) (retM none) (bindM (retM (.int 5)) fun d => optM ((intD d).map some))) (bindM (bindM (bindM (mVar 2) fun d => bindM (retM []) fun ds => retM (d :: ds)) fun ds => optM (lstM ds)) fun o => retM o.d)) (setF 4)
  (seqM (asgM (mBin modD (bindM (bindM (mBin addL (mBin mulD (mVar 3) (retM (.int 44017))) (bindM (bindM (mVar 4) fun d => bindM (retM []) fun ds => retM (d :: ds)) fun ds => optM (intcD ds))) fun d => bindM (retM []) fun ds => retM (d :: ds)) fun ds => optM (intcD ds)) (retM (.int 2147483179))) (setF 3))
  nxM))
  (seqM (retOS (bindM (bindM (ifM (orB (bindM (mBin (cmpD fun i j => decide (i < j)) (mVar 2) (retM (.int 0))) fun d => optM (blD d)) (bindM (mBin (cmpD fun i j => decide (j ≤ i)) (mVar 2) (mBin powD (retM (.int 10)) (retM (.int 18)))) fun d => optM (blD d))) (bindM (bindM (mVar 2) fun d => bindM (retM []) fun ds => retM (d :: ds)) fun ds => optM (absD ds)) (retM (.int 0))) fun d => bindM (bindM (mVar 3) fun d => bindM (bindM (retM (.int 0)) fun d => bindM (retM []) fun ds => retM (d :: ds)) fun ds => retM (d :: ds)) fun ds => retM (d :: ds)) fun ds => optM (lstM ds)))
  nxM)))
theorem jug_ok {ns : List Int} {k : Int} (h0 : 0 ≤ k) (h1 : k < 1000) (hn : ns.length ≤ 1000) : WS m__law_jug (startS 5 [.d (.scr ns), .d (.int k)]) fun out => ∃ o s2, out = .ro o s2 ∧ Bag o := by
  have go : ∀ c : Int, WS jugR [some (.d (.scr ns)), some (.d (.int k)), some (.d (.int c)), none, none] fun out => ∃ o s2, out = .ro o s2 ∧ Bag o := by
    intro c
    unfold jugR
    array_mem_dec
    refine v_forL ?_
    array_mem_dec
    refine w_opt (a := .lst ((cutD ns none (some 5)).map D.int ++ [.int c])) ?_ ?_
    · show (if _ then _ else none) = _
      rw [if_pos]
      rw [List.length_map]
      have : (cutD ns none (some 5)).length ≤ ns.length := by
        have := cut_to (xs := ns) (k := min 5 ns.length) (by omega)
        unfold cutD
        simp
        omega
      exact Nat.le_trans (show _ ≤ 5000 by simp only [List.length_cons, List.length_nil]; omega) (by decide)
    refine ⟨_, rfl, ?_⟩
    refine loop_ok (inv := fun ds s => (∀ d ∈ ds, ∃ i, d = .int i) ∧ ∃ seed t, s = [some (.d (.scr ns)), some (.d (.int k)), some (.d (.int c)), some (.d (.int seed)), t]) ?_ ?_ _ _ ⟨?_, _, _, rfl⟩
    · rintro d ds s ⟨hd, seed, t, rfl⟩
      obtain ⟨i, rfl⟩ := hd d (by simp)
      refine ⟨_, rfl, ?_⟩
      array_mem_dec
      show _ ∧ _
      exact ⟨fun d h => hd d (by simp [h]), _, _, rfl⟩
    · rintro s ⟨_, seed, t, rfl⟩
      array_mem_dec
      refine iteB_by (fun _ => ?_) (fun _ => ?_)
      · array_mem_dec
        exact ⟨_, _, rfl, ⟨_, _, _, rfl⟩⟩
      · array_mem_dec
        refine iteB_by (fun _ => ?_) (fun _ => ?_)
        · array_mem_dec
          exact ⟨_, _, rfl, ⟨_, _, _, rfl⟩⟩
        · array_mem_dec
          exact ⟨_, _, rfl, ⟨_, _, _, rfl⟩⟩
    · intro d h
      rcases List.mem_append.mp h with h | h
      · obtain ⟨i, _, rfl⟩ := List.mem_map.mp h
        exact ⟨i, rfl⟩
      · rw [List.mem_singleton] at h
        exact ⟨_, h⟩
  show WS (seqM (asgM (ifM (bindM (mBin (cmpD fun i j => decide (i < j)) (mVar 1) (bindM (bindM (mVar 0) fun d => bindM (retM []) fun ds => retM (d :: ds)) fun ds => optM (lenD ds))) fun d => optM (blD d)) (bindM (bindM (mBin atD (mVar 0) (mVar 1)) fun d => bindM (retM []) fun ds => retM (d :: ds)) fun ds => optM (intcD ds)) (mBin addL (mBin mulD (retM (.int 5503)) (mVar 1)) (retM (.int 61)))) (setF 2)) jugR) _ _
  array_mem_dec
  refine iteB_by (fun hk => ?_) (fun _ => ?_)
  · have hk := of_decide_eq_true hk
    obtain ⟨i, e, _⟩ := atI_lt h0 hk
    array_mem_dec
    refine w_opt (show ((atI ns k).map D.int) = some (.int i) by rw [e]; rfl) ?_
    array_mem_dec
    exact go i
  · array_mem_dec
    exact go _
end Fli
set_option Elab.async false
set_option linter.all false
set_option maxRecDepth 100000
set_option maxHeartbeats 400000
namespace Fli
open PySem L2
section
variable {α : Type}
theorem wipe_none {i : Nat} {s : S} (h : s[i]? = some none) : wipeS [i] s = s := by
  unfold wipeS
  apply List.ext_getElem?
  intro j
  rw [List.getElem?_mapIdx]
  by_cases e : j = i
  · subst e; rw [h]; simp
  · cases z : s[j]? <;> simp [e]
theorem wipe_set1 {i : Nat} {s : S} {v : Option A} (h : s[i]? = some none) : wipeS [i] (s.set i v) = s := by
  unfold wipeS
  apply List.ext_getElem?
  intro j
  rw [List.getElem?_mapIdx, List.getElem?_set]
  by_cases e : i = j
  · subst e
    have : i < s.length := (List.getElem?_eq_some_iff.mp h).1
    simp [this, h]
    have := (List.getElem?_eq_some_iff.mp h).2
    rw [this]
  · have : ¬ j = i := fun z => e z.symm
    cases z : s[j]? <;> simp [e, this, z]
theorem rest_none {i : Nat} {s : S} (h : s[i]? = some none) : restS s [i] s = s := by
  unfold restS
  apply List.ext_getElem?
  intro j
  rw [List.getElem?_mapIdx]
  by_cases e : j = i
  · subst e; rw [h]; simp
  · cases z : s[j]? <;> simp [e]
/-- a comprehension whose word is free before, and all else stays -/
theorem w_compS {i : Nat} {s : S} {c : M Bool} {elt : M D} {items : List D} {e : α → D} {p : α → Bool} {f : α → D} {Q : O → S → Prop} (xs : List α) (h0 : s[i]? = some none) (hi : items = xs.map e) (l : xs.length ≤ sizeLine)
    (h : ∀ a ∈ xs, Wp c (s.set i (some (.d (e a)))) fun k s2 => k = p a ∧ s2 = s.set i (some (.d (e a))) ∧ iteB k (Wp elt (s.set i (some (.d (e a)))) fun y s3 => y = f a ∧ s3 = s.set i (some (.d (e a)))) True) (q : Q (.lst ((xs.filter p).map f)) s) : Wp (compM [i] (setF i) c elt items) s Q := by
  have hn : noOwn [i] s = true := by unfold noOwn; simp [h0]
  refine w_compF (p := p) (f := f) xs hi hn l ?_ ?_
  · intro a ma
    rw [wipe_none h0]
    refine ⟨_, rfl, (h a ma).mono ?_⟩
    rintro k s2 ⟨e1, rfl, z⟩
    refine ⟨e1, ?_⟩
    cases k with
    | true => exact Wp.mono z fun y s3 ⟨e2, e3⟩ => ⟨e2, by rw [e3]; exact wipe_set1 h0⟩
    | false => exact wipe_set1 h0
  · rw [wipe_none h0, rest_none h0]
    exact q
end
end Fli
set_option Elab.async false
set_option linter.all false
set_option maxRecDepth 100000
set_option maxHeartbeats 1000000
namespace Fli
open PySem L2
/-! claims asked by hand: the panels read once -/
abbrev lit (x s : Str) : D := .tup [.str x, .str s]
def pages : List (Str × D) := [
  ("switches a, b, c\nneeds +a +b\nneeds +b +c", panD ["a", "b", "c"] [.tup [.str "needs", lit "a" "+", lit "b" "+"], .tup [.str "needs", lit "b" "+", lit "c" "+"]]),
  ("switches a, b, c\nsame a b\neither +b +c", panD ["a", "b", "c"] [.tup [.str "same", .str "a", .str "b"], .tup [.str "either", lit "b" "+", lit "c" "+"]]),
  ("switches a\nbe +a\nbe -a", panD ["a"] [.tup [.str "be", lit "a" "+"], .tup [.str "be", lit "a" "-"]]),
  ("switches a, b\neither +a +b\nneeds +b +a", panD ["a", "b"] [.tup [.str "either", lit "a" "+", lit "b" "+"], .tup [.str "needs", lit "b" "+", lit "a" "+"]]),
  ("switches a", panD ["a"] [])]
theorem page_1 : ownM 1 m_panel_of [.str "switches a, b, c\nneeds +a +b\nneeds +b +c"] = some (panD ["a", "b", "c"] [.tup [.str "needs", lit "a" "+", lit "b" "+"], .tup [.str "needs", lit "b" "+", lit "c" "+"]]) := by kernel_rfl
theorem page_2 : ownM 1 m_panel_of [.str "switches a, b, c\nsame a b\neither +b +c"] = some (panD ["a", "b", "c"] [.tup [.str "same", .str "a", .str "b"], .tup [.str "either", lit "b" "+", lit "c" "+"]]) := by kernel_rfl
theorem page_3 : ownM 1 m_panel_of [.str "switches a\nbe +a\nbe -a"] = some (panD ["a"] [.tup [.str "be", lit "a" "+"], .tup [.str "be", lit "a" "-"]]) := by kernel_rfl
theorem page_4 : ownM 1 m_panel_of [.str "switches a, b\neither +a +b\nneeds +b +a"] = some (panD ["a", "b"] [.tup [.str "either", lit "a" "+", lit "b" "+"], .tup [.str "needs", lit "b" "+", lit "a" "+"]]) := by kernel_rfl
theorem page_5 : ownM 1 m_panel_of [.str "switches a"] = some (panD ["a"] []) := by kernel_rfl
theorem pages_ok : ∀ q ∈ pages, ownM 1 m_panel_of [.str q.1] = some q.2 := by
  intro q hq
  unfold pages at hq
  simp only [List.mem_cons, List.not_mem_nil, or_false] at hq
  rcases hq with rfl | rfl | rfl | rfl | rfl
  · exact page_1
  · exact page_2
  · exact page_3
  · exact page_4
  · exact page_5
def readF (ds : List D) : Option D := match ds with
  | [.str t] => (pages.find? fun q => decide (q.1 = t)).map (·.2)
  | _ => none
theorem readF_ok {ds : List D} {P : D} (h : readF ds = some P) : ownM 1 m_panel_of ds = some P := by
  unfold readF at h
  split at h
  · rename_i t
    obtain ⟨q, hq, rfl⟩ := Option.map_eq_some_iff.mp h
    have e := List.find?_some hq
    have e : q.1 = t := of_decide_eq_true e
    have := pages_ok q (List.mem_of_find?_eq_some hq)
    rw [e] at this
    exact this
  · cases h
def fastP (ms : M (List D)) : M D := fun s => (ms s).bind fun q => match readF q.1 with
  | some P => some (P, q.2)
  | none => (callR 1 m_panel_of ((q.1 ++ []).map .d)).bind fun o => match o with
    | .rd d _ => some (d, q.2)
    | .nx _ => some (.non, q.2)
    | _ => none
theorem fastP_eq (ms : M (List D)) : fastP ms = callD 1 m_panel_of ms [] := by
  funext s
  unfold fastP callD
  cases ms s with
  | none => rfl
  | some q =>
    show (match readF q.1 with | some P => some (P, q.2) | none => _) = (callR 1 m_panel_of ((q.1 ++ []).map .d)).bind _
    cases hr : readF q.1 with
    | none => rfl
    | some P =>
      have h := readF_ok hr
      unfold ownM at h
      rw [List.append_nil]
      show some (P, q.2) = _
      cases ho : callR 1 m_panel_of (q.1.map .d) with
      | none => rw [ho] at h; cases h
      | some o =>
        rw [ho] at h
        cases o with
        | rd d s2 =>
          have h : some d = some P := h
          cases h
          rfl
        | nx s2 =>
          have h : some D.non = some P := h
          cases h
          rfl
        | _ => cases h
def m_fast : MS := (seqM (ifS (orB (bindM (bindM (bindM (mVar 0) fun d => optM (isB "tuple" d)) fun d => optM (truD d)) fun k => retM !k) (orB (bindM (mBin (cmpD fun i j => decide (i < j)) (bindM (bindM (mVar 0) fun d => bindM (retM []) fun ds => retM (d :: ds)) fun ds => optM (lenD ds)) (retM (.int 2))) fun d => optM (blD d)) (orB (bindM (bindM (bindM (mBin atD (mVar 0) (retM (.int 0))) fun d => optM (isB "str" d)) fun d => optM (truD d)) fun k => retM !k) (bindM (mBin (notF "CHECKS" fs_CHECKS) (mBin atD (mVar 0) (retM (.int 0))) (retM (.cls "CHECKS"))) fun d => optM (blD d))))) (seqM (retMS (retM (.bl false)))
  nxM) nxM)
  (seqM (asgM (fastP (bindM (mBin atD (mVar 0) (retM (.int 1))) fun d => bindM (retM []) fun ds => retM (d :: ds))) (setF 2))
  (seqM (ifS (bindM (mBin (isND false) (mVar 2) (retM .non)) fun d => optM (blD d)) (seqM (retMS (retM (.bl false)))
  nxM) nxM)
  (seqM (asgM (mBin (itF "CHECKS" fs_CHECKS) (retM (.cls "CHECKS")) (mBin atD (mVar 0) (retM (.int 0)))) (setF 3))
  (seqM (retMS (dispM 3 (dtab [("shows_empty", 7, m_shows_empty), ("shows_fixed", 6, m_shows_fixed), ("shows_locked", 8, m_shows_locked), ("shows_implied", 8, m_shows_implied), ("shows_comes", 3, m_shows_comes), ("shows_apart", 7, m_shows_apart), ("shows_nearest", 13, m_shows_nearest)]) (bindM (mVar 2) fun d => bindM (bindM (slM slL (mVar 0) (bindM (retM (.int 2)) fun d => optM ((intD d).map some)) (retM none)) fun d => bindM (bindM (mVar 1) fun d => bindM (retM []) fun ds => retM (d :: ds)) fun ds => retM (d :: ds)) fun ds => retM (d :: ds))))
  nxM)))))
theorem fast_eq : m_fast = m_holds_claim := by
  unfold m_fast m_holds_claim
  rw [fastP_eq]
def isB1 (k : Bool) : Option D → Bool
  | some (.bl b) => b == k
  | _ => false
theorem isB1_ok {k : Bool} {o : Option D} (h : isB1 k o = true) : o = some (.bl k) := by
  unfold isB1 at h
  split at h
  · rw [eq_of_beq h]
  · cases h
/-- the menu -/
def menuL : List D := match m__law_menu (startS 9 []) with
  | some (.rd (.lst ds) _) => ds
  | _ => []
def menuP : List (D × D) := menuL.filterMap fun d => match d with
  | .tup [c, p] => some (c, p)
  | _ => none
def told (k : Bool) (q : D × D) : Bool := isB1 k (ownM 4 m_fast [q.1, q.2])
theorem told_ok {k : Bool} {q : D × D} (h : told k q = true) : ownM 4 m_holds_claim [q.1, q.2] = some (.bl k) := by
  unfold told at h
  rw [fast_eq] at h
  exact isB1_ok h
theorem menu_ok : menuP.all (told true) = true := by decide +kernel
/-- what may come of bending -/
def odds : List D := [.non, .int 0, .bl true, .dic [], .str "", .lst [], .tup [.str "zz"], .str "zz"]
def words7 : List Str := ["empty", "fixed", "locked", "implied", "comes", "apart", "nearest"]
def bads (p : D) : List D := [.int 0, .bl false, .lst [], .tup [p], .dic [], .str "", .lst [p], .str "zz", .tup [.str "zz"], .tup [.non, .non], .lst (match p with | .tup ds => ds | _ => [])]
def bents (q : D × D) : List (D × D) := match q.1 with
  | .tup cs => (.lst cs, q.2) :: (.tup cs.reverse, q.2) ::
      (([.int 0, .non, .str "", cs.getD (cs.length - 1) .non].map fun x => (.tup (cs ++ [x]), q.2)) ++
       ((List.range cs.length).flatMap fun i => (.tup (cs.take i ++ cs.drop (i + 1)), q.2) :: (.tup (cs.take i ++ [.tup [cs.getD i .non]] ++ cs.drop (i + 1)), q.2) :: (odds.map fun x => (.tup (cs.take i ++ [x] ++ cs.drop (i + 1)), q.2))) ++
       ((words7.filter fun w => (match cs.getD 0 .non with | .str x => !decide (x = w) | _ => true)).map fun w => (.tup (.str w :: cs.drop 1), q.2)) ++
       ((bads q.2).map fun x => (q.1, x)))
  | _ => []
end Fli
set_option Elab.async false
set_option linter.all false
set_option maxRecDepth 100000
set_option maxHeartbeats 1000000
namespace Fli
open PySem L2
theorem adT {as bs : List D} (h : as.length + bs.length ≤ 1000) : addL (.tup as) (.tup bs) = some (.tup (as ++ bs)) := if_pos (Nat.le_trans h (show 1000 ≤ sizeLine by decide))
/-! claims, bent -/
section
variable {cs ps : List D}
theorem sl_lo {n : Nat} (h : n ≤ cs.length) : slL (.tup cs) none (some (n : Int)) = some (.tup (cs.take n)) := by
  show some (D.tup (cutD _ none (some (n : Int)))) = _
  unfold cutD
  rw [HT.sIx_nat, HT.sIx_none, List.drop_zero, Nat.sub_zero, Nat.min_eq_left h]
theorem sl_hi {n : Nat} (h : n ≤ cs.length) : slL (.tup cs) (some (n : Int)) none = some (.tup (cs.drop n)) := by
  show some (D.tup (cutD _ (some (n : Int)) none)) = _
  unfold cutD
  rw [HT.sIx_nat, HT.sIx_none, Nat.min_eq_left h, List.take_of_length_le (by rw [List.length_drop]; omega)]
abbrev vB (o : O) (cs ps : List D) (t3 t4 t5 t6 : Option A) : S := [some (.own o), some (.d (.tup cs)), some (.d (.tup ps)), t3, t4, t5, t6, none]
def BentC (cs ps : List D) (out : Out) : Prop := ∃ b s2 o', b ∈ bents (.tup cs, .tup ps) ∧ out = .rd (.tup [b.1, b.2]) s2 ∧ firstO s2 = some o' ∧ Bag o'
theorem in_lst : (D.lst cs, D.tup ps) ∈ bents (.tup cs, .tup ps) := .head _
theorem in_rev : (D.tup cs.reverse, D.tup ps) ∈ bents (.tup cs, .tup ps) := .tail _ (.head _)
theorem in_add {x : D} (h : x ∈ [D.int 0, .non, .str "", cs.getD (cs.length - 1) .non]) : (D.tup (cs ++ [x]), D.tup ps) ∈ bents (.tup cs, .tup ps) := .tail _ (.tail _ (List.mem_append_left _ (List.mem_append_left _ (List.mem_append_left _ (List.mem_map.mpr ⟨x, h, rfl⟩)))))
theorem in_at {b : D × D} {n : Nat} (hn : n < cs.length) (h : b ∈ (D.tup (cs.take n ++ cs.drop (n + 1)), D.tup ps) :: (D.tup (cs.take n ++ [.tup [cs.getD n .non]] ++ cs.drop (n + 1)), D.tup ps) :: (odds.map fun x => (D.tup (cs.take n ++ [x] ++ cs.drop (n + 1)), D.tup ps))) : b ∈ bents (.tup cs, .tup ps) := .tail _ (.tail _ (List.mem_append_left _ (List.mem_append_left _ (List.mem_append_right _ (List.mem_flatMap.mpr ⟨n, List.mem_range.mpr hn, h⟩)))))
theorem in_word {w : Str} (h : w ∈ words7.filter fun w => match cs.getD 0 .non with | .str x => !decide (x = w) | _ => true) : (D.tup (.str w :: cs.drop 1), D.tup ps) ∈ bents (.tup cs, .tup ps) := .tail _ (.tail _ (List.mem_append_left _ (List.mem_append_right _ (List.mem_map.mpr ⟨w, h, rfl⟩))))
theorem in_bad {x : D} (h : x ∈ bads (.tup ps)) : (D.tup cs, x) ∈ bents (.tup cs, .tup ps) := .tail _ (.tail _ (List.mem_append_right _ (List.mem_map.mpr ⟨x, h, rfl⟩)))
theorem at_n {n : Nat} (h : n < cs.length) : atD (.tup cs) (.int (n : Int)) = some (cs.getD n .non) := by
  show atI cs (n : Int) = _
  unfold atI L2.ixN
  rw [if_pos (by omega), if_pos (by omega)]
  simp [List.getElem?_eq_getElem h]
theorem at_last (h : 0 < cs.length) : atD (.tup cs) (.int (-1)) = some (cs.getD (cs.length - 1) .non) := by
  show atI cs (-1) = _
  unfold atI L2.ixN
  rw [if_neg (by omega), if_pos (by omega)]
  have e : ((cs.length : Int) + -1).toNat = cs.length - 1 := by omega
  have e2 : (-1 + (cs.length : Int)).toNat = cs.length - 1 := by omega
  try simp only [e]
  try simp only [e2]
  try rw [e]
  try rw [e2]
  simp [List.getD_eq_getElem?_getD, List.getElem?_eq_getElem (show cs.length - 1 < cs.length by omega)]
end
end Fli
set_option Elab.async false
set_option linter.all false
set_option maxRecDepth 100000
set_option maxHeartbeats 1000000
namespace Fli
open PySem L2
local macro_rules | `(tactic| array_mem_dec) => `(tactic| (repeat (first | ((with_reducible change WS _ _ _); first | with_reducible refine v_seq ?_ | with_reducible refine v_nx ?_ | with_reducible refine v_ret ?_ | with_reducible refine v_retO ?_ | with_reducible refine v_if ?_ | with_reducible refine v_asg ?_ | with_reducible refine v_asgO ?_ | with_reducible refine v_asgF ?_ | with_reducible refine v_drop ?_ | with_reducible refine v_par ?_ | with_reducible refine v_par3 ?_ | with_reducible refine v_put ?_) | ((with_reducible change Wp (optM _) _ _); first | ((with_reducible show Wp (optM (blD _)) _ _); refine w_opt rfl ?_) | ((with_reducible show Wp (optM (truD _)) _ _); refine w_opt rfl ?_) | ((with_reducible refine w_eqS ?_ ?_ ?_); (first | assumption | decide +kernel); (first | assumption | decide +kernel)) | ((with_reducible refine w_tupM ?_ ?_); exact of_decide_eq_true rfl) | ((with_reducible refine w_lstM ?_ ?_); exact of_decide_eq_true rfl) | with_reducible refine w_tupM ?_ ?_ | with_reducible refine w_lstM ?_ ?_ | ((with_reducible refine w_mul ?_ ?_); first | exact Or.inl ⟨of_decide_eq_true rfl, of_decide_eq_true rfl⟩ | exact Or.inr ⟨of_decide_eq_true rfl, of_decide_eq_true rfl⟩) | ((with_reducible refine w_mod ?_ ?_); exact of_decide_eq_true rfl) | ((with_reducible refine w_div ?_ ?_); exact ⟨of_decide_eq_true rfl, of_decide_eq_true rfl⟩) | ((with_reducible refine w_pow ?_ ?_); exact ⟨of_decide_eq_true rfl, of_decide_eq_true rfl, of_decide_eq_true rfl⟩) | with_reducible refine w_mul ?_ ?_ | with_reducible refine w_div ?_ ?_ | with_reducible refine w_mod ?_ ?_ | with_reducible refine w_pow ?_ ?_ | ((with_reducible show Wp (optM _) _ _); (fail_if_success (with_reducible show Wp (optM (lenC _ _ _ _)) _ _)); (fail_if_success (with_reducible show Wp (optM (truC _ _ _ _)) _ _)); (fail_if_success (with_reducible show Wp (optM (strC _ _ _ _)) _ _)); (fail_if_success (with_reducible show Wp (optM (eqO _ _ _ _ _)) _ _)); (fail_if_success (with_reducible show Wp (optM (neO _ _ _ _ _)) _ _)); (fail_if_success (with_reducible show Wp (optM (reprD _)) _ _)); (fail_if_success (with_reducible show Wp (optM (Option.map D.bl _)) _ _)); (fail_if_success (with_reducible show Wp (optM (ownM _ _ _)) _ _)); (fail_if_success (with_reducible show Wp (optM (methO _ _ _ _ _)) _ _)); (fail_if_success (with_reducible show Wp (optM (eqD _ _ _)) _ _)); refine w_opt rfl ?_)) | ((with_reducible change Wp _ _ _); first | with_reducible refine w_bind ?_ | with_reducible refine w_bin ?_ | with_reducible refine w_binO ?_ | with_reducible refine w_ret ?_ | with_reducible refine w_ifM ?_ | with_reducible refine w_andB ?_ | with_reducible refine w_orB ?_ | with_reducible refine w_andV ?_ | with_reducible refine w_orV ?_ | with_reducible refine w_slM ?_ | with_reducible refine w_chM ?_ | ((with_reducible show Wp (mVar _) _ _); refine w_var rfl ?_) | ((with_reducible show Wp (ixN _ _) _ _); first | refine w_ixO rfl rfl ?_ | refine w_ixD rfl rfl ?_) | ((with_reducible show Wp (lenN _) _ _); refine w_lenO rfl ?_) | ((with_reducible show Wp (frzN _) _ _); first | refine w_frzO rfl ?_ | refine w_frzD rfl ?_)) | ((with_reducible change thenO _ _ _); first | with_reducible refine thenO_nx ?_ | with_reducible refine thenO_rd ?_ | with_reducible refine thenO_ro ?_) | ((with_reducible change iteB _ _ _); first | with_reducible refine iteB_t ?_ | with_reducible refine iteB_f ?_ | ((with_reducible refine iteB_tt ?_ ?_); decide +kernel) | ((with_reducible refine iteB_ff ?_ ?_); decide +kernel) | ((with_reducible refine iteB_tt ?_ ?_); assumption) | ((with_reducible refine iteB_ff ?_ ?_); assumption) | ((with_reducible show iteB _ _ _); first | refine iteB_tt rfl ?_ | refine iteB_ff rfl ?_)) | ((with_reducible show ∃ k, truD _ = some k ∧ iteB k _ _); refine ⟨_, rfl, ?_⟩) | ((with_reducible show ∃ k, cmpD _ _ _ = some (D.bl k) ∧ iteB k _ _); refine ⟨_, rfl, ?_⟩) | ((with_reducible show iteB _ _ _); first | refine iteB_tt rfl ?_ | refine iteB_ff rfl ?_) | ((with_reducible show Wp (mVar _) _ _); refine w_var rfl ?_) | ((with_reducible show Wp (ixN _ _) _ _); first | refine w_ixO rfl rfl ?_ | refine w_ixD rfl rfl ?_) | ((with_reducible show Wp (lenN _) _ _); refine w_lenO rfl ?_) | ((with_reducible show Wp (frzN _) _ _); first | refine w_frzO rfl ?_ | refine w_frzD rfl ?_) | ((with_reducible show Wp (optM _) _ _); (fail_if_success (with_reducible show Wp (optM (lenC _ _ _ _)) _ _)); (fail_if_success (with_reducible show Wp (optM (truC _ _ _ _)) _ _)); (fail_if_success (with_reducible show Wp (optM (strC _ _ _ _)) _ _)); (fail_if_success (with_reducible show Wp (optM (eqO _ _ _ _ _)) _ _)); (fail_if_success (with_reducible show Wp (optM (neO _ _ _ _ _)) _ _)); (fail_if_success (with_reducible show Wp (optM (reprD _)) _ _)); (fail_if_success (with_reducible show Wp (optM (Option.map D.bl _)) _ _)); (fail_if_success (with_reducible show Wp (optM (ownM _ _ _)) _ _)); (fail_if_success (with_reducible show Wp (optM (methO _ _ _ _ _)) _ _)); (fail_if_success (with_reducible show Wp (optM (eqD _ _ _)) _ _)); refine w_opt rfl ?_))))
/-! claims, bent: the law's walk -/
theorem eq_int (neg : Bool) (a b : Int) : eqD neg (.int a) (.int b) = some (.bl (neg ^^ (a == b))) := by
  show (if SeqAt.shaped (.int a) = true ∧ SeqAt.shaped (.int b) = true then some (D.bl (neg ^^ PyData.eqv (.int a) (.int b))) else none) = _
  have s : ∀ a : Int, SeqAt.shaped (.int a) = true := fun a => by unfold SeqAt.shaped; simp [PyData.canLay0, PyData.depth]
  rw [if_pos ⟨s a, s b⟩]
  simp only [PyData.eqv]
theorem of_ok {o : O} {ys : List D} (hb : Bag o) (hx : ys ≠ []) (hl : ys.length < 1000000) : WS m__law_of (startS 2 [.own o, .d (.lst ys)]) fun out => ∃ v s2 o', out = .rd v s2 ∧ firstO s2 = some o' ∧ Bag o' ∧ v ∈ ys := by
  unfold m__law_of
  array_mem_dec
  refine w_gulp rfl hb (w := ys.length) (by cases ys with | nil => exact absurd rfl hx | cons _ _ => simp only [List.length_cons]; omega) (by omega) ?_ ?_
  · array_mem_dec
    exact ⟨rfl, rfl⟩
  · intro v o' b h1 h2
    obtain ⟨y, e, hy⟩ := atI_lt h1 h2
    refine w_opt e ?_
    exact ⟨_, _, o', rfl, rfl, b, hy⟩
theorem eq_str {x y : Str} (hx : PyData.strOk x = true) (hy : PyData.strOk y = true) (neg : Bool) : eqD neg (.str x) (.str y) = some (.bl (neg ^^ decide (x = y))) := by
  show (if SeqAt.shaped (.str x) = true ∧ SeqAt.shaped (.str y) = true then some (D.bl (neg ^^ PyData.eqv (.str x) (.str y))) else none) = _
  rw [if_pos ⟨shaped_str.trans hx, shaped_str.trans hy⟩]
  have e : PyData.eqv (.str x) (.str y) = (x == y) := by simp only [PyData.eqv]
  rw [e]
  rfl

theorem ok7 : ∀ w ∈ words7, PyData.strOk w = true := by decide +kernel
theorem ne7 : ("empty" : Str) ≠ "fixed" := by decide +kernel
section
variable {cs ps : List D}
theorem w_sl {lo hi : Option Int} {es : List D} {ml mh : M (Option Int)} {st : S} {Q : D → S → Prop} (h1 : st[1]? = some (some (.d (.tup cs)))) (h2 : ml st = some (lo, st)) (h3 : mh st = some (hi, st)) (h4 : slL (.tup cs) lo hi = some (.tup es)) (h5 : Q (.tup es) st) : Wp (slM slL (mVar 1) ml mh) st Q := w_slM (w_var h1 ⟨_, _, h2, _, _, h3, w_opt h4 h5⟩)
theorem bent_ok (h0 : 0 < cs.length) (hl : cs.length ≤ 90) {nm : Str} (e0 : cs.getD 0 .non = .str nm) (hnm : PyData.strOk nm = true) {o : O} (hb : Bag o) : WS m__law_bent_claim (startS 8 [.own o, .d (.tup cs), .d (.tup ps)]) (BentC cs ps) := by
  unfold m__law_bent_claim
  show WS _ (vB o cs ps none none none none) _
  refine v_seq (v_par (w_bind ?_))
  refine w_gulp (o := o) (w := cs.length) rfl hb (by omega) (by omega) ?_ ?_
  · array_mem_dec
    exact ⟨rfl, rfl⟩
  intro i o1 b1 i0 i1
  refine w_bind (w_bind ?_)
  refine w_gulp (o := o1) (w := 9) rfl b1 (by decide) (by decide) (w_bind (w_ret (w_bind (w_ret (w_ret ⟨rfl, rfl⟩))))) ?_
  intro w o2 b2 w0 w9
  refine w_bind (w_ret (w_ret (w_ret ⟨_, _, rfl, ?_⟩)))
  obtain ⟨n, rfl⟩ : ∃ n : Nat, i = (n : Int) := ⟨i.toNat, by omega⟩
  have hn : n < cs.length := by omega
  have s1 := sl_lo (cs := cs) (n := n) (by omega)
  have s2 : slL (.tup cs) (some ((n : Int) + 1)) none = some (.tup (cs.drop (n + 1))) := by
    have e : ((n : Int) + 1) = ((n + 1 : Nat) : Int) := by omega
    rw [e]
    exact sl_hi (by omega)
  have s3 : slL (.tup cs) (some 1) none = some (.tup (cs.drop 1)) := sl_hi (cs := cs) (n := 1) (by omega)
  have lt : (cs.take n).length ≤ 90 := by rw [List.length_take]; omega
  have ld : (cs.drop (n + 1)).length ≤ 90 := by rw [List.length_drop]; omega
  have ld1 : (cs.drop 1).length ≤ 90 := by rw [List.length_drop]; omega
  show thenO _ _ (.nx (vB o2 cs ps (some (.d (.int (n : Int)))) (some (.d (.int w))) none none))
  refine thenO_nx (v_seq (v_if (w_bind (w_bin (w_var rfl (w_ret (w_opt (eq_int _ _ _) (w_opt rfl (iteB_by (fun _ => ?_) (fun _ => v_nx (thenO_nx ?_)))))))))))
  · array_mem_dec
    exact ⟨_, _, o2, in_lst, rfl, rfl, b2⟩
  refine v_seq (v_if (w_bind (w_bin (w_var rfl (w_ret (w_opt (eq_int _ _ _) (w_opt rfl (iteB_by (fun _ => ?_) (fun _ => v_nx (thenO_nx ?_))))))))))
  · refine v_seq (v_ret (w_bind (w_bind (w_bin (w_var rfl (w_bind (w_bind ?_)))))))
    refine w_some (o := o2) rfl b2 (xs := [.int 0, .non, .str "", cs.getD (cs.length - 1) .non]) (List.cons_ne_nil _ _) (show 4 < 1000000 by decide) ?_ ?_
    · refine w_bind (w_bind (w_bind (w_bind (w_ret (w_bind (w_bind (w_ret (w_bind (w_bind (w_ret (w_bind (w_bind (w_bin (w_var rfl ?_))))))))))))))
      refine w_bind (w_ret (w_opt (a := D.int (-1)) rfl (w_opt (at_last h0) ?_)))
      array_mem_dec
      exact ⟨rfl, rfl⟩
    · intro x o3 b3 hx
      refine w_bind (w_ret (w_ret (w_tupM (of_decide_eq_true rfl) (w_opt (adT (by rw [List.length_singleton]; omega)) ?_))))
      array_mem_dec
      exact ⟨_, _, o3, in_add hx, rfl, rfl, b3⟩
  refine v_seq (v_if (w_bind (w_bin (w_var rfl (w_ret (w_opt (eq_int _ _ _) (w_opt rfl (iteB_by (fun _ => ?_) (fun _ => v_nx (thenO_nx ?_))))))))))
  · refine v_seq (v_ret (w_bind (w_bind (w_bin (w_sl rfl rfl rfl s1 (w_sl rfl rfl rfl s2 (w_opt (adT (by omega)) ?_)))))))
    array_mem_dec
    exact ⟨_, _, o2, in_at hn (.head _), rfl, rfl, b2⟩
  refine v_seq (v_if (w_bind (w_bin (w_var rfl (w_ret (w_opt (eq_int _ _ _) (w_opt rfl (iteB_by (fun _ => ?_) (fun _ => v_nx (thenO_nx ?_))))))))))
  · array_mem_dec
    exact ⟨_, _, o2, in_rev, rfl, rfl, b2⟩
  refine v_seq (v_if (w_bind (w_bin (w_var rfl (w_ret (w_opt (eq_int _ _ _) (w_opt rfl (iteB_by (fun _ => ?_) (fun _ => v_nx (thenO_nx ?_))))))))))
  · refine v_seq (v_ret (w_bind (w_bind (w_bin (w_bin (w_sl rfl rfl rfl s1 ?_))))))
    refine w_bind (w_bind (w_bind (w_bind (w_bin (w_var rfl (w_var rfl (w_opt (at_n hn) ?_)))))))
    refine w_bind (w_ret (w_ret (w_tupM (of_decide_eq_true rfl) (w_bind (w_ret (w_ret (w_tupM (of_decide_eq_true rfl) ?_)))))))
    refine w_opt (adT (by rw [List.length_singleton]; omega)) ?_
    refine w_sl rfl rfl rfl s2 (w_opt (adT (by rw [List.length_append, List.length_singleton]; omega)) ?_)
    array_mem_dec
    exact ⟨_, _, o2, in_at hn (.tail _ (.head _)), rfl, rfl, b2⟩
  refine v_seq (v_if (w_bind (w_bin (w_var rfl (w_ret (w_opt (eq_int _ _ _) (w_opt rfl (iteB_by (fun _ => ?_) (fun _ => v_nx (thenO_nx ?_))))))))))
  · refine v_seq (v_asg ?_)
    refine w_some (o := o2) rfl b2 (xs := odds) (List.cons_ne_nil _ _) (show 8 < 1000000 by decide) ?_ ?_
    · array_mem_dec
      refine ⟨_, _, rfl, ?_⟩
      array_mem_dec
      exact ⟨rfl, rfl⟩
    · intro x o3 b3 hx
      show thenO _ _ (.nx (vB o3 cs ps (some (.d (.int (n : Int)))) (some (.d (.int w))) (some (.d x)) none))
      refine thenO_nx (v_seq (v_ret (w_bind (w_bind (w_bin (w_bin (w_sl rfl rfl rfl s1 ?_)))))))
      refine w_bind (w_bind (w_var rfl (w_bind (w_ret (w_ret (w_tupM (of_decide_eq_true rfl) ?_))))))
      refine w_opt (adT (by rw [List.length_singleton]; omega)) ?_
      refine w_sl rfl rfl rfl s2 (w_opt (adT (by rw [List.length_append, List.length_singleton]; omega)) ?_)
      array_mem_dec
      exact ⟨_, _, o3, in_at hn (.tail _ (.tail _ (List.mem_map.mpr ⟨x, hx, rfl⟩))), rfl, rfl, b3⟩
  refine v_seq (v_if (w_bind (w_bin (w_var rfl (w_ret (w_opt (eq_int _ _ _) (w_opt rfl (iteB_by (fun _ => ?_) (fun _ => v_nx (thenO_nx ?_))))))))))
  · refine v_seq (v_asgO ?_)
    array_mem_dec
    show Wp _ (vB o2 cs ps (some (.d (.int (n : Int)))) (some (.d (.int w))) none (some (.own (.lst (words7.map D.str))))) _
    have fe : (words7.filter fun w => !decide (w = nm)) = words7.filter fun w => match cs.getD 0 .non with | .str x => !decide (x = w) | _ => true := by
      rw [e0]
      refine List.filter_congr fun w _ => ?_
      show (!decide (w = nm)) = !decide (nm = w)
      congr 1
      rw [Bool.eq_iff_iff, decide_eq_true_iff, decide_eq_true_iff]
      exact eq_comm
    have nf : (words7.filter fun w => !decide (w = nm)) ≠ [] := by
      intro h
      rw [List.filter_eq_nil_iff] at h
      have h1 := h "empty" (.head _)
      have h2 := h "fixed" (.tail _ (.head _))
      simp only [Bool.not_eq_true', decide_eq_false_iff_not, Classical.not_not] at h1 h2
      exact ne7 (h1.trans h2.symm)
    have lf : (words7.filter fun w => !decide (w = nm)).length ≤ 7 := List.length_filter_le _ words7
    refine w_lendD (o0 := o2) rfl ?_
    refine w_bind (w_bind (w_cplL (w_frzO rfl ⟨_, rfl, ?_⟩)))
    show Wp _ (vB o2 cs ps (some (.d (.int (n : Int)))) (some (.d (.int w))) none (some (.d (.lst (words7.map D.str))))) _
    refine w_compS (i := 7) words7 (e := D.str) (p := fun w => !decide (w = nm)) (f := D.str) rfl rfl (of_decide_eq_true rfl) ?_ ?_
    · intro w hw
      refine w_bind (w_bin (w_var rfl (w_bin (w_var rfl (w_ret ?_)))))
      have e0' : atD (.tup cs) (.int 0) = some (.str nm) := by
        have := at_n (n := 0) h0
        rw [e0] at this
        exact this
      refine w_opt e0' (w_opt (eq_str (ok7 w hw) hnm true) (w_opt rfl ⟨?_, rfl, iteB_by (fun _ => w_var rfl ⟨rfl, rfl⟩) (fun _ => True.intro)⟩))
      rw [Bool.true_xor]
    refine w_ret (w_bind (w_ret (w_ret ⟨o2, rfl, ?_⟩)))
    refine (of_ok b2 (ys := (words7.filter fun w => !decide (w = nm)).map D.str) (fun z => nf (List.map_eq_nil_iff.mp z)) (by rw [List.length_map]; omega)).mono ?_
    rintro out ⟨v, s5, o3, rfl, f3, b3, hv⟩
    obtain ⟨w2, hw2, rfl⟩ := List.mem_map.mp hv
    rw [fe] at hw2
    refine ⟨o3, f3, ?_⟩
    refine w_bind (w_ret (w_ret (w_tupM (of_decide_eq_true rfl) ?_)))
    refine w_sl rfl rfl rfl s3 (w_opt (adT (as := [.str w2]) (by rw [List.length_singleton]; omega)) ?_)
    array_mem_dec
    exact ⟨_, _, o3, in_word hw2, rfl, rfl, b3⟩
  refine v_seq (v_ret (w_bind (w_bind (w_var rfl (w_bind (w_bind ?_))))))
  refine w_some (o := o2) rfl b2 (xs := bads (.tup ps)) (List.cons_ne_nil _ _) (show 11 < 1000000 by decide) ?_ ?_
  · array_mem_dec
    refine ⟨_, _, rfl, ?_⟩
    array_mem_dec
    exact ⟨rfl, rfl⟩
  · intro x o3 b3 hx
    array_mem_dec
    exact ⟨_, _, o3, in_bad hx, rfl, rfl, b3⟩
end
end Fli
set_option Elab.async false
set_option linter.all false
set_option maxRecDepth 100000
set_option maxHeartbeats 1000000
namespace Fli
open PySem L2
/-! the law: all by tables -/
theorem bents_ok : menuP.all (fun q => (bents q).all (told false)) = true := by decide +kernel
theorem menu_tup : menuL = menuP.map (fun q => D.tup [q.1, q.2]) := by kernel_rfl
theorem menu_own : ownM 9 m__law_menu [] = some (.lst menuL) := by kernel_rfl
theorem menu_len : menuL.length = 12 := by decide +kernel
def shapeM (q : D × D) : Bool := match q.1, q.2 with
  | .tup cs, .tup _ => decide (0 < cs.length) && (decide (cs.length ≤ 90) && (match cs.getD 0 .non with | .str x => PyData.strOk x | _ => false))
  | _, _ => false
theorem menu_shape : menuP.all shapeM = true := by decide +kernel
theorem menu_mem {q : D × D} (h : q ∈ menuP) : ∃ cs ps nm, q = (.tup cs, .tup ps) ∧ 0 < cs.length ∧ cs.length ≤ 90 ∧ cs.getD 0 .non = .str nm ∧ PyData.strOk nm = true ∧ told true q = true ∧ ∀ b ∈ bents q, told false b = true := by
  have a := List.all_eq_true.mp menu_shape q h
  have b := List.all_eq_true.mp menu_ok q h
  have c := List.all_eq_true.mp (List.all_eq_true.mp bents_ok q h)
  obtain ⟨x, y⟩ := q
  cases x with
  | tup cs =>
    cases y with
    | tup ps =>
      have a : (decide (0 < cs.length) && (decide (cs.length ≤ 90) && (match cs.getD 0 .non with | .str x => PyData.strOk x | _ => false))) = true := a
      rw [Bool.and_eq_true, Bool.and_eq_true] at a
      obtain ⟨a1, a2, a3⟩ := a
      cases e : cs.getD 0 .non with
      | str nm =>
        rw [e] at a3
        exact ⟨cs, ps, nm, rfl, of_decide_eq_true a1, of_decide_eq_true a2, e, a3, b, c⟩
      | _ => rw [e] at a3; cases a3
    | _ => cases a
  | _ => cases a
def odd12 : List D := [.non, .bl true, .int 0, .str "", .str "empty", .tup [], .lst [], .dic [], .tup [.str "empty"], .tup [.str "comes", .str "switches a", .str "+", .str "+"], .tup [.tup []], .tup [.non, .str "x"]]
abbrev comesD : D := .tup [.str "comes", .str "switches a", .str "+", .str "+"]
def bOf : Option D → Option Bool
  | some (.bl b) => some b
  | _ => none
theorem bOf_ok {o : Option D} {b : Bool} (h : bOf o = some b) : o = some (.bl b) := by
  unfold bOf at h
  split at h
  · cases h; rfl
  · cases h
def oddT (x y : D) : Bool := match bOf (eqX x comesD), bOf (isB "tuple" y) with
  | some a, some true => match bOf (eqD false y (.tup [])) with
    | some c => isB1 (a && c) (ownM 4 m_fast [x, y])
    | none => false
  | some _, some false => isB1 false (ownM 4 m_fast [x, y])
  | _, _ => false
theorem odd_ok : (odd12.all fun x => odd12.all fun y => oddT x y) = true := by decide +kernel
theorem odd_mem {x y : D} (hx : x ∈ odd12) (hy : y ∈ odd12) : ∃ a b k, eqX x comesD = some (.bl a) ∧ isB "tuple" y = some (.bl b) ∧ (b = true → ∃ c, eqD false y (.tup []) = some (.bl c) ∧ k = (a && c)) ∧ (b = false → k = false) ∧ ownM 4 m_holds_claim [x, y] = some (.bl k) := by
  have h := List.all_eq_true.mp (List.all_eq_true.mp odd_ok x hx) y hy
  unfold oddT at h
  split at h
  · rename_i a e1 e2
    split at h
    · rename_i c e3
      rw [fast_eq] at h
      exact ⟨a, true, a && c, bOf_ok e1, bOf_ok e2, (fun _ => ⟨c, bOf_ok e3, rfl⟩), (fun z => nomatch z), isB1_ok h⟩
    · cases h
  · rename_i a e1 e2
    rw [fast_eq] at h
    exact ⟨a, false, false, bOf_ok e1, bOf_ok e2, (fun z => nomatch z), (fun _ => rfl), isB1_ok h⟩
  · cases h
theorem rep_bl (k : Bool) : ∃ z, reprX [.bl k] = some (.str z) ∧ eqD true (.str z) (.str z) = some (.bl false) := by
  cases k
  · exact ⟨"False", by kernel_rfl, by kernel_rfl⟩
  · exact ⟨"True", by kernel_rfl, by kernel_rfl⟩
end Fli
set_option Elab.async false
set_option linter.all false
set_option maxRecDepth 100000
set_option maxHeartbeats 1000000
namespace Fli
open PySem L2
local macro_rules | `(tactic| array_mem_dec) => `(tactic| (repeat (first | ((with_reducible change WS _ _ _); first | with_reducible refine v_seq ?_ | with_reducible refine v_nx ?_ | with_reducible refine v_ret ?_ | with_reducible refine v_retO ?_ | with_reducible refine v_if ?_ | with_reducible refine v_asg ?_ | with_reducible refine v_asgO ?_ | with_reducible refine v_asgF ?_ | with_reducible refine v_drop ?_ | with_reducible refine v_par ?_ | with_reducible refine v_par3 ?_ | with_reducible refine v_put ?_) | ((with_reducible change Wp (optM _) _ _); first | ((with_reducible show Wp (optM (blD _)) _ _); refine w_opt rfl ?_) | ((with_reducible show Wp (optM (truD _)) _ _); refine w_opt rfl ?_) | ((with_reducible refine w_eqS ?_ ?_ ?_); (first | assumption | decide +kernel); (first | assumption | decide +kernel)) | ((with_reducible refine w_tupM ?_ ?_); exact of_decide_eq_true rfl) | ((with_reducible refine w_lstM ?_ ?_); exact of_decide_eq_true rfl) | with_reducible refine w_tupM ?_ ?_ | with_reducible refine w_lstM ?_ ?_ | ((with_reducible refine w_mul ?_ ?_); first | exact Or.inl ⟨of_decide_eq_true rfl, of_decide_eq_true rfl⟩ | exact Or.inr ⟨of_decide_eq_true rfl, of_decide_eq_true rfl⟩) | ((with_reducible refine w_mod ?_ ?_); exact of_decide_eq_true rfl) | ((with_reducible refine w_div ?_ ?_); exact ⟨of_decide_eq_true rfl, of_decide_eq_true rfl⟩) | ((with_reducible refine w_pow ?_ ?_); exact ⟨of_decide_eq_true rfl, of_decide_eq_true rfl, of_decide_eq_true rfl⟩) | with_reducible refine w_mul ?_ ?_ | with_reducible refine w_div ?_ ?_ | with_reducible refine w_mod ?_ ?_ | with_reducible refine w_pow ?_ ?_ | ((with_reducible show Wp (optM _) _ _); (fail_if_success (with_reducible show Wp (optM (lenC _ _ _ _)) _ _)); (fail_if_success (with_reducible show Wp (optM (truC _ _ _ _)) _ _)); (fail_if_success (with_reducible show Wp (optM (strC _ _ _ _)) _ _)); (fail_if_success (with_reducible show Wp (optM (eqO _ _ _ _ _)) _ _)); (fail_if_success (with_reducible show Wp (optM (neO _ _ _ _ _)) _ _)); (fail_if_success (with_reducible show Wp (optM (reprD _)) _ _)); (fail_if_success (with_reducible show Wp (optM (Option.map D.bl _)) _ _)); (fail_if_success (with_reducible show Wp (optM (ownM _ _ _)) _ _)); (fail_if_success (with_reducible show Wp (optM (methO _ _ _ _ _)) _ _)); (fail_if_success (with_reducible show Wp (optM (eqD _ _ _)) _ _)); refine w_opt rfl ?_)) | ((with_reducible change Wp _ _ _); first | with_reducible refine w_bind ?_ | with_reducible refine w_bin ?_ | with_reducible refine w_binO ?_ | with_reducible refine w_ret ?_ | with_reducible refine w_ifM ?_ | with_reducible refine w_andB ?_ | with_reducible refine w_orB ?_ | with_reducible refine w_andV ?_ | with_reducible refine w_orV ?_ | with_reducible refine w_slM ?_ | with_reducible refine w_chM ?_ | ((with_reducible show Wp (mVar _) _ _); refine w_var rfl ?_) | ((with_reducible show Wp (ixN _ _) _ _); first | refine w_ixO rfl rfl ?_ | refine w_ixD rfl rfl ?_) | ((with_reducible show Wp (lenN _) _ _); refine w_lenO rfl ?_) | ((with_reducible show Wp (frzN _) _ _); first | refine w_frzO rfl ?_ | refine w_frzD rfl ?_)) | ((with_reducible change thenO _ _ _); first | with_reducible refine thenO_nx ?_ | with_reducible refine thenO_rd ?_ | with_reducible refine thenO_ro ?_) | ((with_reducible change iteB _ _ _); first | with_reducible refine iteB_t ?_ | with_reducible refine iteB_f ?_ | ((with_reducible refine iteB_tt ?_ ?_); decide +kernel) | ((with_reducible refine iteB_ff ?_ ?_); decide +kernel) | ((with_reducible refine iteB_tt ?_ ?_); assumption) | ((with_reducible refine iteB_ff ?_ ?_); assumption) | ((with_reducible show iteB _ _ _); first | refine iteB_tt rfl ?_ | refine iteB_ff rfl ?_)) | ((with_reducible show ∃ k, truD _ = some k ∧ iteB k _ _); refine ⟨_, rfl, ?_⟩) | ((with_reducible show ∃ k, cmpD _ _ _ = some (D.bl k) ∧ iteB k _ _); refine ⟨_, rfl, ?_⟩) | ((with_reducible show iteB _ _ _); first | refine iteB_tt rfl ?_ | refine iteB_ff rfl ?_) | ((with_reducible show Wp (mVar _) _ _); refine w_var rfl ?_) | ((with_reducible show Wp (ixN _ _) _ _); first | refine w_ixO rfl rfl ?_ | refine w_ixD rfl rfl ?_) | ((with_reducible show Wp (lenN _) _ _); refine w_lenO rfl ?_) | ((with_reducible show Wp (frzN _) _ _); first | refine w_frzO rfl ?_ | refine w_frzD rfl ?_) | ((with_reducible show Wp (optM _) _ _); (fail_if_success (with_reducible show Wp (optM (lenC _ _ _ _)) _ _)); (fail_if_success (with_reducible show Wp (optM (truC _ _ _ _)) _ _)); (fail_if_success (with_reducible show Wp (optM (strC _ _ _ _)) _ _)); (fail_if_success (with_reducible show Wp (optM (eqO _ _ _ _ _)) _ _)); (fail_if_success (with_reducible show Wp (optM (neO _ _ _ _ _)) _ _)); (fail_if_success (with_reducible show Wp (optM (reprD _)) _ _)); (fail_if_success (with_reducible show Wp (optM (Option.map D.bl _)) _ _)); (fail_if_success (with_reducible show Wp (optM (ownM _ _ _)) _ _)); (fail_if_success (with_reducible show Wp (optM (methO _ _ _ _ _)) _ _)); (fail_if_success (with_reducible show Wp (optM (eqD _ _ _)) _ _)); refine w_opt rfl ?_))))
abbrev vL (o : O) (t1 t2 t3 t4 t5 t6 t7 t8 : Option A) : S := [some (.own o), t1, t2, t3, t4, t5, t6, t7, t8]
theorem right_ok {o : O} (hb : Bag o) : WS m__law_right (startS 9 [.own o]) fun out => ∃ s2, out = .rd (.bl true) s2 := by
  unfold m__law_right
  show WS _ (vL o none none none none none none none none) _
  refine v_seq (v_asg (w_own menu_own (w_ret ⟨rfl, ?_⟩)))
  show thenO _ _ (.nx (vL o (some (.d (.lst menuL))) none none none none none none none))
  have mL : ∀ d ∈ menuL, ∃ q ∈ menuP, d = D.tup [q.1, q.2] := fun d hd => by
    rw [menu_tup] at hd
    obtain ⟨q, hq, rfl⟩ := List.mem_map.mp hd
    exact ⟨q, hq, rfl⟩
  have nL : menuL ≠ [] := fun z => by have := menu_len; rw [z] at this; cases this
  have lL : menuL.length < 1000000 := by rw [menu_len]; decide
  generalize menuL = L at mL nL lL
  refine thenO_nx (v_seq (v_forL (w_var rfl ⟨_, rfl, ?_⟩)))
  refine loop_ok (inv := fun ds s => (∀ d ∈ ds, ∃ q ∈ menuP, d = D.tup [q.1, q.2]) ∧ ∃ t2 t3, s = vL o (some (.d (.lst L))) t2 t3 none none none none none) ?_ ?_ _ _ ⟨mL, none, none, rfl⟩
  · rintro d ds s ⟨hd, t2, t3, rfl⟩
    obtain ⟨q, hq, rfl⟩ := hd d (List.mem_cons_self ..)
    obtain ⟨cs, ps, nm, rfl, h0, hl, e0, hnm, hT, hF⟩ := menu_mem hq
    have e := told_ok hT
    refine ⟨_, rfl, ?_⟩
    show WS _ (vL o (some (.d (.lst L))) (some (.d (.tup cs))) (some (.d (.tup ps))) none none none none none) _
    refine v_seq (v_if (w_orB (w_bind (w_bin (w_own e ?_)))))
    refine w_bind (w_var rfl (w_bind (w_bind (w_var rfl (w_bind (w_ret (w_ret (w_ret ⟨rfl, ?_⟩))))))))
    refine w_ret (w_opt (a := D.bl false) rfl (w_opt rfl (iteB_f ?_)))
    refine w_bind (w_bin (w_bind (w_bind (w_var rfl (w_bind (w_bind (w_var rfl (w_bind (w_ret (w_ret (w_ret ?_)))))))))))
    refine w_opt (show ownM 4 m_holds_claim (pickA [1, 0] [.tup ps, .tup cs]) = some (.bl true) from e) ?_
    refine w_ret (w_opt (a := D.bl false) rfl (w_opt rfl (iteB_f (v_nx (thenO_nx (v_nx ?_))))))
    exact ⟨fun d h => hd d (by simp [h]), _, _, rfl⟩
  rintro s ⟨_, t2, t3, rfl⟩
  refine thenO_nx (v_seq (v_forR ?_))
  array_mem_dec
  refine ⟨_, rfl, ?_⟩
  refine loop_ok (inv := fun ds s => ∃ (o : O) (t2 t3 t4 t5 t6 : Option A), Bag o ∧ s = vL o (some (.d (.lst L))) t2 t3 t4 t5 t6 none none) ?_ ?_ _ _ ⟨o, t2, t3, none, none, none, hb, rfl⟩
  · rintro d ds s ⟨o, t2, t3, t4, t5, t6, hb, rfl⟩
    refine ⟨_, rfl, ?_⟩
    refine v_seq (v_asgF ?_)
    refine w_some (o := o) rfl hb (xs := L) nL lL (w_bind (w_var rfl (w_bind (w_ret (w_ret ⟨rfl, rfl⟩))))) ?_
    intro v o1 b1 hv
    obtain ⟨q, hq, rfl⟩ := mL v hv
    obtain ⟨cs, ps, nm, rfl, h0, hl, e0, hnm, hT, hF⟩ := menu_mem hq
    refine ⟨_, rfl, ?_⟩
    show thenO _ _ (.nx (vL o1 (some (.d (.lst L))) (some (.d (.tup cs))) (some (.d (.tup ps))) (some (.d d)) t5 t6 none none))
    refine thenO_nx (v_seq (v_asgF (w_lendD (o0 := o1) rfl ?_)))
    refine w_bind (w_var rfl (w_bind (w_bind (w_var rfl (w_bind (w_ret (w_ret (w_ret ⟨o1, rfl, ?_⟩))))))))
    refine (bent_ok (ps := ps) h0 hl e0 hnm b1).mono ?_
    rintro out ⟨b, s2, o2, hbe, rfl, f2, b2⟩
    have e := told_ok (hF b hbe)
    refine ⟨o2, f2, _, rfl, ?_⟩
    show thenO _ _ (.nx (vL o2 (some (.d (.lst L))) (some (.d (.tup cs))) (some (.d (.tup ps))) (some (.d d)) (some (.d b.1)) (some (.d b.2)) none none))
    refine thenO_nx (v_seq (v_if (w_bind (w_bin (w_own e ?_)))))
    refine w_bind (w_var rfl (w_bind (w_bind (w_var rfl (w_bind (w_ret (w_ret (w_ret ⟨rfl, ?_⟩))))))))
    refine w_ret (w_opt (a := D.bl false) rfl (w_opt rfl (iteB_f (v_nx (thenO_nx (v_nx ?_))))))
    exact ⟨o2, _, _, _, _, _, b2, rfl⟩
  rintro s ⟨o, t2, t3, t4, t5, t6, hb, rfl⟩
  refine thenO_nx (v_seq (v_forR ?_))
  array_mem_dec
  refine ⟨_, rfl, ?_⟩
  refine loop_ok (inv := fun ds s => ∃ (o : O) (t4 t5 t6 t7 t8 : Option A), Bag o ∧ s = vL o (some (.d (.lst L))) t2 t3 t4 t5 t6 t7 t8) ?_ ?_ _ _ ⟨o, t4, t5, t6, none, none, hb, rfl⟩
  · rintro d ds s ⟨o, t4, t5, t6, t7, t8, hb, rfl⟩
    refine ⟨_, rfl, ?_⟩
    refine v_seq (v_asgO ?_)
    array_mem_dec
    refine ⟨_, _, rfl, ?_⟩
    array_mem_dec
    show Wp _ (vL o (some (.d (.lst L))) t2 t3 (some (.d d)) t5 t6 (some (.own (.lst odd12))) t8) _
    refine w_lendD (o0 := o) rfl ?_
    refine w_bind (w_frzO rfl (w_bind (w_ret (w_ret ⟨o, rfl, ?_⟩))))
    refine (of_ok hb (ys := odd12) (List.cons_ne_nil _ _) (show 12 < 1000000 by decide)).mono ?_
    rintro out ⟨x, s2, o1, rfl, f1, b1, hx⟩
    refine ⟨o1, f1, ?_⟩
    show Wp _ (vL o1 (some (.d (.lst L))) t2 t3 (some (.d d)) t5 t6 (some (.d (.lst odd12))) t8) _
    refine w_bind (w_bind (w_some (o := o1) rfl b1 (xs := odd12) (List.cons_ne_nil _ _) (show 12 < 1000000 by decide) (w_bind (w_frzD rfl (w_bind (w_ret (w_ret ⟨rfl, rfl⟩))))) ?_))
    intro y o2 b2 hy
    refine w_bind (w_ret (w_ret (w_ret ⟨_, _, rfl, ?_⟩)))
    show thenO _ _ (.nx (vL o2 (some (.d (.lst L))) t2 t3 (some (.d d)) (some (.d x)) (some (.d y)) (some (.d (.lst odd12))) t8))
    obtain ⟨a, b, k, q1, q2, q3, q4, q5⟩ := odd_mem hx hy
    obtain ⟨z, rz, ez⟩ := rep_bl k
    have fin : WS (seqM (ifS (bindM (mBin (eqD true) (bindM (bindM (callD 4 m_holds_claim (bindM (mVar 5) fun d => bindM (bindM (mVar 6) fun d => bindM (retM []) fun ds => retM (d :: ds)) fun ds => retM (d :: ds)) []) fun d => bindM (retM []) fun ds => retM (d :: ds)) fun ds => optM (reprX ds)) (bindM (bindM (mVar 8) fun d => bindM (retM []) fun ds => retM (d :: ds)) fun ds => optM (reprX ds))) fun d => optM (blD d)) (seqM (retMS (retM (.bl false))) nxM) nxM) nxM) (vL o2 (some (.d (.lst L))) t2 t3 (some (.d d)) (some (.d x)) (some (.d y)) (some (.d (.lst odd12))) (some (.d (.bl k)))) fun out => ∃ s2, out = .nx s2 ∧ ∃ (o : O) (t4 t5 t6 t7 t8 : Option A), Bag o ∧ s2 = vL o (some (.d (.lst L))) t2 t3 t4 t5 t6 t7 t8 := by
      refine v_seq (v_if (w_bind (w_bin (w_bind (w_bind (w_own q5 ?_))))))
      refine w_bind (w_var rfl (w_bind (w_bind (w_var rfl (w_bind (w_ret (w_ret (w_ret ⟨rfl, ?_⟩))))))))
      refine w_bind (w_ret (w_ret (w_opt rz ?_)))
      refine w_bind (w_bind (w_var rfl (w_bind (w_ret (w_ret (w_opt rz ?_))))))
      refine w_opt ez (w_opt rfl (iteB_f (v_nx (thenO_nx (v_nx ?_)))))
      exact ⟨_, rfl, o2, _, _, _, _, _, b2, rfl⟩
    refine thenO_nx (v_seq (v_asg (w_andV (w_bin (w_var rfl ?_)))))
    array_mem_dec
    refine w_opt q1 ?_
    refine ⟨a, rfl, ?_⟩
    cases a with
    | false =>
      have e : false = k := by
        cases b with
        | true => obtain ⟨c, _, e⟩ := q3 rfl; rw [e]; rfl
        | false => exact (q4 rfl).symm
      subst e
      exact iteB_f (thenO_nx (fin.mono fun out ⟨s2, e, z⟩ => by subst e; exact z))
    | true =>
      refine iteB_t (w_andV (w_bind (w_var rfl (w_opt q2 ?_))))
      refine ⟨b, rfl, ?_⟩
      cases b with
      | false =>
        have e := q4 rfl
        subst e
        exact iteB_f (thenO_nx (fin.mono fun out ⟨s2, e, z⟩ => by subst e; exact z))
      | true =>
        obtain ⟨c, q6, e⟩ := q3 rfl
        rw [Bool.true_and] at e
        subst e
        refine iteB_t (w_bin (w_var rfl (w_bind (w_ret (w_tupM (of_decide_eq_true rfl) (w_opt q6 ?_))))))
        exact thenO_nx (fin.mono fun out ⟨s2, e, z⟩ => by subst e; exact z)
  rintro s ⟨o, t4, t5, t6, t7, t8, hb, rfl⟩
  array_mem_dec
  exact ⟨_, rfl⟩
/-! the law -/
theorem law_true (ns : List Int) (h : ns.length ≤ 63) : ∃ s', callR N_law.length m_law [.d (.scr ns)] = some (.rd (.bl true) s') := by
  have run : WS m_law (startS 2 [.d (.scr ns)]) fun out => ∃ s2, out = .rd (.bl true) s2 := by
    unfold m_law
    array_mem_dec
    refine w_cplR ?_
    array_mem_dec
    have big : ∀ v : Int, 0 ≤ v → v ≤ 4 → rng1 [.int v] = some (rngD 0 v.toNat) := fun v v0 v1 => if_pos (by unfold okR; exact decide_eq_true ⟨by omega, by omega⟩)
    have fits : ∀ m : Int, 0 ≤ m → 0 ≤ (if (if 4 < m then 4 else m) > 2 then if 4 < m then (4 : Int) else m else 2) ∧ (if (if 4 < m then 4 else m) > 2 then if 4 < m then (4 : Int) else m else 2) ≤ 4 := by
      intro m hm
      split <;> split <;> omega
    obtain ⟨f0, f1⟩ := fits (ns.length : Int) (by omega)
    refine ⟨_, big _ f0 f1, ?_⟩
    refine w_comp (inv := fun ds acc s => (∀ d ∈ ds, ∃ k : Int, d = .int k ∧ 0 ≤ k ∧ k < 1000) ∧ acc.length + ds.length ≤ 5 ∧ (∀ d ∈ acc, d = .bl true) ∧ s = [some (.d (.scr ns)), none]) rfl ⟨?_, ?_, (fun d hd => nomatch hd), rfl⟩ ?_ ?_
    · intro d hd
      unfold rngD at hd
      obtain ⟨k, hk, rfl⟩ := List.mem_map.mp hd
      have hk := List.mem_range.mp hk
      exact ⟨_, rfl, by omega, by omega⟩
    · unfold rngD
      rw [List.length_map, List.length_range, List.length_nil]
      omega
    · rintro d ds acc s ⟨hd, hl, ha, rfl⟩
      obtain ⟨k, rfl, k0, k1⟩ := hd d (by simp)
      simp only [List.length_cons] at hl
      refine ⟨_, rfl, w_ret (iteB_t ?_)⟩
      refine w_giveD (w_callO ?_)
      array_mem_dec
      refine (jug_ok k0 k1 (by omega)).mono ?_
      rintro out ⟨o, s2, rfl, hb⟩
      refine (right_ok hb).mono ?_
      rintro out ⟨s3, rfl⟩
      refine ⟨Nat.lt_of_le_of_lt (by omega : acc.length ≤ 5) (by decide), fun y hy => hd y (by simp [hy]), by simp; omega, ?_, rfl⟩
      intro y hy
      rcases List.mem_append.mp hy with hy | hy
      · exact ha y hy
      · simpa using hy
    · rintro acc s2 ⟨_, _, ha, rfl⟩
      obtain ⟨bs, e, al⟩ := bls_true ha
      array_mem_dec
      refine w_opt (show allD [.lst acc] = some (.bl true) by show (blsD acc).map _ = _; rw [e]; show some (D.bl (bs.all id)) = _; rw [al]) ?_
      array_mem_dec
      exact ⟨_, rfl⟩
  obtain ⟨o, e, s2, rfl⟩ := run
  exact ⟨s2, e⟩
end Fli
set_option Elab.async false
set_option linter.all false
set_option maxRecDepth 100000
set_option maxHeartbeats 0
open PySem PySem.W PyProof.Rows
theorem PySem.Challenge.cw_fliponce_k62_claims_by_hand_and_of_any_k_holds : PySem.Challenge.rw_fliponce_k62_claims_by_hand_and_of_any_k.Holds := by
  w_on; o_law; k_head; (case hw => w_witness2)
  k_fill
  refine Fli.walkG (l := PySem.Challenge.rw_fliponce_k62_claims_by_hand_and_of_any_k) (n := 63) (k := 11) (N := Fli.N_law) (x := "_law_script") (body := Fli.m_law) rfl (by decide) rfl ⟨rfl, by decide, by decide⟩ (fun w h Y => PySem.W.kIn_of Y) ?F Fli.law_true
  case F =>
    intro w ih hP hw hT mg fa h KX G hmg
    obtain ⟨iP, iw, iT⟩ := ih
    cases (show iP = _ from hP)
    cases (show iw = w from hw)
    cases (show iT = [] from hT)
    letI : Fli.HW := ⟨(PySem.Challenge.rw_fliponce_k62_claims_by_hand_and_of_any_k).prog, w, []⟩
    refine' Fli.all_mk KX G hmg ?a_Panel ?pg_Panel ?hd_Panel ?po_Panel ?sa_Panel ?oc_Panel ?T ?c_HEAD ?c_LETTERS ?c_LITERAL_WORDS ?c_MOST_NAME ?c_MOST_ROW ?c_MOST_RULES ?c_MOST_SWITCHES ?c_MOST_WISHED ?c_NAME_WORDS ?c_SIGNS ?c_WORDS ?tf_CHECKS ?u_zip ?z_InvalidLiterals ?z_InvalidText ?xo_InvalidLiterals ?xo_InvalidText ?F__law_jug ?F__law_pour ?F__law_of ?F__law_more ?F__law_menu ?F__law_bent_claim ?F_is_number ?F_is_name ?F_is_switch ?F_is_sign ?F_is_literal ?F_is_setting ?F_is_rule ?F_check_switches ?F_check_rules ?F_opposite ?F_clauses ?F_has_literal ?F_keeps ?F_read_literal ?F_read_rule ?F_check_panel ?F_broken_rules ?F_is_good ?F_placed_clauses ?F_keeps_placed ?F_settings ?F_rule_steps ?F_sign_of ?F_unlike ?F_flipped ?F_check_wished ?F_is_tuple_of ?F_panel_of ?F_are_wished ?F_is_step ?F_end_of ?F_is_ring ?F_leads ?F_shows_empty ?F_shows_fixed ?F_shows_locked ?F_shows_one_of ?F_shows_implied ?F_are_two ?F_shows_comes ?F_shows_apart ?F_is_wanted ?F_shows_nearest ?F_holds_claim ?F__law_right ?F_law ?F_Panel_read ?I_Panel
    (case a_Panel => k_is)
    (case pg_Panel => k_is)
    (case hd_Panel => k_is)
    (case po_Panel => k_is)
    (case sa_Panel => k_is)
    (case oc_Panel => intro hm cl; refine' Fli.ownC_mk hm cl ?a_5 ?b_5 ?c_5 ?d_5 ?na_5 ?q1_5 ?q2_5 ?k1_5 ?k2_5 ?k3_5 ?k4_5 ?k5_5 ?k6_5 ?n1_5 ?n2_5 ?n3_5 ?n4_5 ?n5_5 ?n6_5; (case q1_5 => k_is); (case na_5 => intro f hf; simp only [List.mem_cons, List.not_mem_nil, or_false] at hf; (rcases hf with rfl | rfl) <;> k_is); all_goals k_is)
    (case T => refine' Fli.txtJ_mk KX G (Fli.txt_mk KX G ?z1_6 ?z2_6 ?z3_6 ?z4_6 ?z5_6 ?z6_6 ?z7_6 ?z8_6 ?z9_6 ?z10_6 ?z11_6 ?z12_6 ?z13_6 ?z14_6) ?z15_6 ?z16_6; all_goals k_is)
    (case c_HEAD => refine' Fli.con_str (PySem.W.mg_of KX G ?a_7); (case a_7 => k_is))
    (case c_LETTERS => refine' Fli.con_str (PySem.W.mg_of KX G ?a_8); (case a_8 => k_is))
    (case c_LITERAL_WORDS => refine' Fli.con_tup (PySem.W.mg_of KX G ?a_9) ?l_9 ?z_9 ?r_9; (case a_9 => k_is); (case l_9 => k_is); (case z_9 => decide); (case r_9 => exact (.cons ⟨_, rfl⟩ (.cons ⟨_, rfl⟩ (.cons ⟨_, rfl⟩ .nil)))))
    (case c_MOST_NAME => refine' Fli.con_int (PySem.W.mg_of KX G ?a_10); (case a_10 => k_is))
    (case c_MOST_ROW => refine' Fli.con_int (PySem.W.mg_of KX G ?a_11); (case a_11 => k_is))
    (case c_MOST_RULES => refine' Fli.con_int (PySem.W.mg_of KX G ?a_12); (case a_12 => k_is))
    (case c_MOST_SWITCHES => refine' Fli.con_int (PySem.W.mg_of KX G ?a_13); (case a_13 => k_is))
    (case c_MOST_WISHED => refine' Fli.con_int (PySem.W.mg_of KX G ?a_14); (case a_14 => k_is))
    (case c_NAME_WORDS => refine' Fli.con_tup (PySem.W.mg_of KX G ?a_15) ?l_15 ?z_15 ?r_15; (case a_15 => k_is); (case l_15 => k_is); (case z_15 => decide); (case r_15 => exact (.cons ⟨_, rfl⟩ (.cons ⟨_, rfl⟩ .nil))))
    (case c_SIGNS => refine' Fli.con_tup (PySem.W.mg_of KX G ?a_16) ?l_16 ?z_16 ?r_16; (case a_16 => k_is); (case l_16 => k_is); (case z_16 => decide); (case r_16 => exact (.cons ⟨_, rfl⟩ (.cons ⟨_, rfl⟩ .nil))))
    (case c_WORDS => refine' Fli.con_tup (PySem.W.mg_of KX G ?a_17) ?l_17 ?z_17 ?r_17; (case a_17 => k_is); (case l_17 => k_is); (case z_17 => decide); (case r_17 => exact (.cons ⟨_, rfl⟩ (.cons ⟨_, rfl⟩ (.cons ⟨_, rfl⟩ (.cons ⟨_, rfl⟩ (.cons ⟨_, rfl⟩ (.cons ⟨_, rfl⟩ .nil))))))))
    (case tf_CHECKS => refine' Fli.tabF_mk (PySem.W.mg_of KX G ?a_18) ?l_18 ?lit_18 ?low_18 ?e_18; (case a_18 => k_is); (case l_18 => k_is); (case lit_18 => exact ⟨⟨_, _, rfl, rfl⟩, ⟨⟨_, _, rfl, rfl⟩, ⟨⟨_, _, rfl, rfl⟩, ⟨⟨_, _, rfl, rfl⟩, ⟨⟨_, _, rfl, rfl⟩, ⟨⟨_, _, rfl, rfl⟩, ⟨⟨_, _, rfl, rfl⟩, trivial⟩⟩⟩⟩⟩⟩⟩); (case low_18 => rfl); (case e_18 => refine' ⟨⟨_, rfl⟩, ⟨_, rfl, PySem.W.mg_of KX G ?eea_18⟩, ⟨⟨_, rfl⟩, ⟨_, rfl, PySem.W.mg_of KX G ?eeb_18⟩, ⟨⟨_, rfl⟩, ⟨_, rfl, PySem.W.mg_of KX G ?eec_18⟩, ⟨⟨_, rfl⟩, ⟨_, rfl, PySem.W.mg_of KX G ?eed_18⟩, ⟨⟨_, rfl⟩, ⟨_, rfl, PySem.W.mg_of KX G ?eee_18⟩, ⟨⟨_, rfl⟩, ⟨_, rfl, PySem.W.mg_of KX G ?eef_18⟩, ⟨⟨_, rfl⟩, ⟨_, rfl, PySem.W.mg_of KX G ?eeg_18⟩, trivial⟩⟩⟩⟩⟩⟩⟩; all_goals k_is))
    (case u_zip => refine' PySem.W.mg_none_of KX G ?a_19; (case a_19 => k_is))
    (case z_InvalidLiterals => refine' Fli.exT_mk Fli.exB_ValueError KX G ?a_20 ?k_20 ?i_20 ?e_20 ?t_20 ?sa_20 ?ov_20 ?tk_20 ?hd_20 ?ga_20 ?gg_20 ?no_20 ?sB_20 ?sC_20 ?sup_20 ?op_20 ?sN_20 ?top_20 ?iC_20 ?tI_20 ?lk_20 ?hcd_20 ?hk_20 ?hv_20 ?hf_20 ?hl_20 ?hcc_20; (case a_20 => k_is); (case i_20 => kx_is); (case ov_20 => kx_is); (case sup_20 => ks_is); (case top_20 => first | rfl | decide); (case k_20 => k_is); (case e_20 => k_is); (case t_20 => k_is); (case sa_20 => k_is); (case tk_20 => k_is); (case hd_20 => k_is); (case ga_20 => k_is); (case gg_20 => k_is); (case no_20 => k_is); (case sB_20 => k_is); (case sC_20 => k_is); (case op_20 => k_is); (case sN_20 => k_is); (case iC_20 => k_is); (case tI_20 => k_is); (case lk_20 => k_is); (case hcd_20 => k_is); (case hk_20 => k_is); (case hcc_20 => k_is); (case hv_20 => first | rfl | kernel_rfl); (case hf_20 => first | rfl | kernel_rfl); (case hl_20 => first | rfl | kernel_rfl))
    (case z_InvalidText => refine' Fli.exT_mk Fli.exB_ValueError KX G ?a_21 ?k_21 ?i_21 ?e_21 ?t_21 ?sa_21 ?ov_21 ?tk_21 ?hd_21 ?ga_21 ?gg_21 ?no_21 ?sB_21 ?sC_21 ?sup_21 ?op_21 ?sN_21 ?top_21 ?iC_21 ?tI_21 ?lk_21 ?hcd_21 ?hk_21 ?hv_21 ?hf_21 ?hl_21 ?hcc_21; (case a_21 => k_is); (case i_21 => kx_is); (case ov_21 => kx_is); (case sup_21 => ks_is); (case top_21 => first | rfl | decide); (case k_21 => k_is); (case e_21 => k_is); (case t_21 => k_is); (case sa_21 => k_is); (case tk_21 => k_is); (case hd_21 => k_is); (case ga_21 => k_is); (case gg_21 => k_is); (case no_21 => k_is); (case sB_21 => k_is); (case sC_21 => k_is); (case op_21 => k_is); (case sN_21 => k_is); (case iC_21 => k_is); (case tI_21 => k_is); (case lk_21 => k_is); (case hcd_21 => k_is); (case hk_21 => k_is); (case hcc_21 => k_is); (case hv_21 => first | rfl | kernel_rfl); (case hf_21 => first | rfl | kernel_rfl); (case hl_21 => first | rfl | kernel_rfl))
    (case xo_InvalidLiterals => refine' Fli.exOwn_mk KX G ?a_22 ?y_22; (case a_22 => k_is); (case y_22 => kts_exm))
    (case xo_InvalidText => refine' Fli.exOwn_mk KX G ?a_23 ?y_23; (case a_23 => k_is); (case y_23 => kts_exm))
    (case F__law_jug => refine' Fli.funX_mk KX G ?a_24 ?l_24 ?c_24 ?k_24; (case a_24 => k_is); (case l_24 => k_is); (case c_24 => k_is); (case k_24 => k_is))
    (case F__law_pour => refine' Fli.funX_mk KX G ?a_25 ?l_25 ?c_25 ?k_25; (case a_25 => k_is); (case l_25 => k_is); (case c_25 => k_is); (case k_25 => k_is))
    (case F__law_of => refine' Fli.funX_mk KX G ?a_26 ?l_26 ?c_26 ?k_26; (case a_26 => k_is); (case l_26 => k_is); (case c_26 => k_is); (case k_26 => k_is))
    (case F__law_more => refine' Fli.funX_mk KX G ?a_27 ?l_27 ?c_27 ?k_27; (case a_27 => k_is); (case l_27 => k_is); (case c_27 => k_is); (case k_27 => k_is))
    (case F__law_menu => refine' Fli.funX_mk KX G ?a_28 ?l_28 ?c_28 ?k_28; (case a_28 => k_is); (case l_28 => k_is); (case c_28 => k_is); (case k_28 => k_is))
    (case F__law_bent_claim => refine' Fli.funX_mk KX G ?a_29 ?l_29 ?c_29 ?k_29; (case a_29 => k_is); (case l_29 => k_is); (case c_29 => k_is); (case k_29 => k_is))
    (case F_is_number => refine' Fli.funX_mk KX G ?a_30 ?l_30 ?c_30 ?k_30; (case a_30 => k_is); (case l_30 => k_is); (case c_30 => k_is); (case k_30 => k_is))
    (case F_is_name => refine' Fli.funX_mk KX G ?a_31 ?l_31 ?c_31 ?k_31; (case a_31 => k_is); (case l_31 => k_is); (case c_31 => k_is); (case k_31 => k_is))
    (case F_is_switch => refine' Fli.funX_mk KX G ?a_32 ?l_32 ?c_32 ?k_32; (case a_32 => k_is); (case l_32 => k_is); (case c_32 => k_is); (case k_32 => k_is))
    (case F_is_sign => refine' Fli.funX_mk KX G ?a_33 ?l_33 ?c_33 ?k_33; (case a_33 => k_is); (case l_33 => k_is); (case c_33 => k_is); (case k_33 => k_is))
    (case F_is_literal => refine' Fli.funX_mk KX G ?a_34 ?l_34 ?c_34 ?k_34; (case a_34 => k_is); (case l_34 => k_is); (case c_34 => k_is); (case k_34 => k_is))
    (case F_is_setting => refine' Fli.funX_mk KX G ?a_35 ?l_35 ?c_35 ?k_35; (case a_35 => k_is); (case l_35 => k_is); (case c_35 => k_is); (case k_35 => k_is))
    (case F_is_rule => refine' Fli.funX_mk KX G ?a_36 ?l_36 ?c_36 ?k_36; (case a_36 => k_is); (case l_36 => k_is); (case c_36 => k_is); (case k_36 => k_is))
    (case F_check_switches => refine' Fli.funX_mk KX G ?a_37 ?l_37 ?c_37 ?k_37; (case a_37 => k_is); (case l_37 => k_is); (case c_37 => k_is); (case k_37 => k_is))
    (case F_check_rules => refine' Fli.funX_mk KX G ?a_38 ?l_38 ?c_38 ?k_38; (case a_38 => k_is); (case l_38 => k_is); (case c_38 => k_is); (case k_38 => k_is))
    (case F_opposite => refine' Fli.funX_mk KX G ?a_39 ?l_39 ?c_39 ?k_39; (case a_39 => k_is); (case l_39 => k_is); (case c_39 => k_is); (case k_39 => k_is))
    (case F_clauses => refine' Fli.funX_mk KX G ?a_40 ?l_40 ?c_40 ?k_40; (case a_40 => k_is); (case l_40 => k_is); (case c_40 => k_is); (case k_40 => k_is))
    (case F_has_literal => refine' Fli.funX_mk KX G ?a_41 ?l_41 ?c_41 ?k_41; (case a_41 => k_is); (case l_41 => k_is); (case c_41 => k_is); (case k_41 => k_is))
    (case F_keeps => refine' Fli.funX_mk KX G ?a_42 ?l_42 ?c_42 ?k_42; (case a_42 => k_is); (case l_42 => k_is); (case c_42 => k_is); (case k_42 => k_is))
    (case F_read_literal => refine' Fli.funX_mk KX G ?a_43 ?l_43 ?c_43 ?k_43; (case a_43 => k_is); (case l_43 => k_is); (case c_43 => k_is); (case k_43 => k_is))
    (case F_read_rule => refine' Fli.funX_mk KX G ?a_44 ?l_44 ?c_44 ?k_44; (case a_44 => k_is); (case l_44 => k_is); (case c_44 => k_is); (case k_44 => k_is))
    (case F_check_panel => refine' Fli.funX_mk KX G ?a_45 ?l_45 ?c_45 ?k_45; (case a_45 => k_is); (case l_45 => k_is); (case c_45 => k_is); (case k_45 => k_is))
    (case F_broken_rules => refine' Fli.funX_mk KX G ?a_46 ?l_46 ?c_46 ?k_46; (case a_46 => k_is); (case l_46 => k_is); (case c_46 => k_is); (case k_46 => k_is))
    (case F_is_good => refine' Fli.funX_mk KX G ?a_47 ?l_47 ?c_47 ?k_47; (case a_47 => k_is); (case l_47 => k_is); (case c_47 => k_is); (case k_47 => k_is))
    (case F_placed_clauses => refine' Fli.funX_mk KX G ?a_48 ?l_48 ?c_48 ?k_48; (case a_48 => k_is); (case l_48 => k_is); (case c_48 => k_is); (case k_48 => k_is))
    (case F_keeps_placed => refine' Fli.funX_mk KX G ?a_49 ?l_49 ?c_49 ?k_49; (case a_49 => k_is); (case l_49 => k_is); (case c_49 => k_is); (case k_49 => k_is))
    (case F_settings => refine' Fli.funX_mk KX G ?a_50 ?l_50 ?c_50 ?k_50; (case a_50 => k_is); (case l_50 => k_is); (case c_50 => k_is); (case k_50 => k_is))
    (case F_rule_steps => refine' Fli.funX_mk KX G ?a_51 ?l_51 ?c_51 ?k_51; (case a_51 => k_is); (case l_51 => k_is); (case c_51 => k_is); (case k_51 => k_is))
    (case F_sign_of => refine' Fli.funX_mk KX G ?a_52 ?l_52 ?c_52 ?k_52; (case a_52 => k_is); (case l_52 => k_is); (case c_52 => k_is); (case k_52 => k_is))
    (case F_unlike => refine' Fli.funX_mk KX G ?a_53 ?l_53 ?c_53 ?k_53; (case a_53 => k_is); (case l_53 => k_is); (case c_53 => k_is); (case k_53 => k_is))
    (case F_flipped => refine' Fli.funX_mk KX G ?a_54 ?l_54 ?c_54 ?k_54; (case a_54 => k_is); (case l_54 => k_is); (case c_54 => k_is); (case k_54 => k_is))
    (case F_check_wished => refine' Fli.funX_mk KX G ?a_55 ?l_55 ?c_55 ?k_55; (case a_55 => k_is); (case l_55 => k_is); (case c_55 => k_is); (case k_55 => k_is))
    (case F_is_tuple_of => refine' Fli.funX_mk KX G ?a_56 ?l_56 ?c_56 ?k_56; (case a_56 => k_is); (case l_56 => k_is); (case c_56 => k_is); (case k_56 => k_is))
    (case F_panel_of => refine' Fli.funX_mk KX G ?a_57 ?l_57 ?c_57 ?k_57; (case a_57 => k_is); (case l_57 => k_is); (case c_57 => k_is); (case k_57 => k_is))
    (case F_are_wished => refine' Fli.funX_mk KX G ?a_58 ?l_58 ?c_58 ?k_58; (case a_58 => k_is); (case l_58 => k_is); (case c_58 => k_is); (case k_58 => k_is))
    (case F_is_step => refine' Fli.funX_mk KX G ?a_59 ?l_59 ?c_59 ?k_59; (case a_59 => k_is); (case l_59 => k_is); (case c_59 => k_is); (case k_59 => k_is))
    (case F_end_of => refine' Fli.funX_mk KX G ?a_60 ?l_60 ?c_60 ?k_60; (case a_60 => k_is); (case l_60 => k_is); (case c_60 => k_is); (case k_60 => k_is))
    (case F_is_ring => refine' Fli.funX_mk KX G ?a_61 ?l_61 ?c_61 ?k_61; (case a_61 => k_is); (case l_61 => k_is); (case c_61 => k_is); (case k_61 => k_is))
    (case F_leads => refine' Fli.funX_mk KX G ?a_62 ?l_62 ?c_62 ?k_62; (case a_62 => k_is); (case l_62 => k_is); (case c_62 => k_is); (case k_62 => k_is))
    (case F_shows_empty => refine' Fli.funX_mk KX G ?a_63 ?l_63 ?c_63 ?k_63; (case a_63 => k_is); (case l_63 => k_is); (case c_63 => k_is); (case k_63 => k_is))
    (case F_shows_fixed => refine' Fli.funX_mk KX G ?a_64 ?l_64 ?c_64 ?k_64; (case a_64 => k_is); (case l_64 => k_is); (case c_64 => k_is); (case k_64 => k_is))
    (case F_shows_locked => refine' Fli.funX_mk KX G ?a_65 ?l_65 ?c_65 ?k_65; (case a_65 => k_is); (case l_65 => k_is); (case c_65 => k_is); (case k_65 => k_is))
    (case F_shows_one_of => refine' Fli.funX_mk KX G ?a_66 ?l_66 ?c_66 ?k_66; (case a_66 => k_is); (case l_66 => k_is); (case c_66 => k_is); (case k_66 => k_is))
    (case F_shows_implied => refine' Fli.funX_mk KX G ?a_67 ?l_67 ?c_67 ?k_67; (case a_67 => k_is); (case l_67 => k_is); (case c_67 => k_is); (case k_67 => k_is))
    (case F_are_two => refine' Fli.funX_mk KX G ?a_68 ?l_68 ?c_68 ?k_68; (case a_68 => k_is); (case l_68 => k_is); (case c_68 => k_is); (case k_68 => k_is))
    (case F_shows_comes => refine' Fli.funX_mk KX G ?a_69 ?l_69 ?c_69 ?k_69; (case a_69 => k_is); (case l_69 => k_is); (case c_69 => k_is); (case k_69 => k_is))
    (case F_shows_apart => refine' Fli.funX_mk KX G ?a_70 ?l_70 ?c_70 ?k_70; (case a_70 => k_is); (case l_70 => k_is); (case c_70 => k_is); (case k_70 => k_is))
    (case F_is_wanted => refine' Fli.funX_mk KX G ?a_71 ?l_71 ?c_71 ?k_71; (case a_71 => k_is); (case l_71 => k_is); (case c_71 => k_is); (case k_71 => k_is))
    (case F_shows_nearest => refine' Fli.funX_mk KX G ?a_72 ?l_72 ?c_72 ?k_72; (case a_72 => k_is); (case l_72 => k_is); (case c_72 => k_is); (case k_72 => k_is))
    (case F_holds_claim => refine' Fli.funX_mk KX G ?a_73 ?l_73 ?c_73 ?k_73; (case a_73 => k_is); (case l_73 => k_is); (case c_73 => k_is); (case k_73 => k_is))
    (case F__law_right => refine' Fli.funX_mk KX G ?a_74 ?l_74 ?c_74 ?k_74; (case a_74 => k_is); (case l_74 => k_is); (case c_74 => k_is); (case k_74 => k_is))
    (case F_law => refine' Fli.funX_mk KX G ?a_75 ?l_75 ?c_75 ?k_75; (case a_75 => k_is); (case l_75 => k_is); (case c_75 => k_is); (case k_75 => k_is))
    (case F_Panel_read => refine' Fli.cmF_mk ?rd_76 ?ga_76 ?a_76 ?rc_76 ?i_76 ?l_76 ?c_76 ?k_76; (case rd_76 => k_is); (case ga_76 => k_is); (case a_76 => k_is); (case rc_76 => k_is); (case i_76 => k_is); (case l_76 => k_is); (case c_76 => k_is); (case k_76 => k_is))
    (case I_Panel => refine' Fli.initF_mk ?mk_77 ?kc_77 ?a_77 ?i_77 ?l_77 ?cd_77 ?k_77 ?lt_77 ?l0_77; (case mk_77 => k_is); (case kc_77 => k_is); (case a_77 => k_is); (case i_77 => k_is); (case l_77 => k_is); (case cd_77 => k_is); (case k_77 => k_is); (case lt_77 => k_is); (case l0_77 => k_is))

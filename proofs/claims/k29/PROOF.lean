import PyProof.Rows.All
import Wide.All
import OpenK.AllK
import Wide.FinOn
import HandS.ForMost
import HandS.Flow
import HandS.TupAny
import HandS.IsInst
import HandS.OwnEq
import HandS.MakeKw
import HandS.MakeKwOnly
import HandS.Strs
import HandS.RaiseMore
import HandS.Style
import KE.GoesEnum
import KE.KCallOwn
import PyProof.InstNe
import HandS.ClsMeth
import HandS.Star
import HandS.TryMany
import KE.KUnpackStar
import HandS.DictComp
import KE.KDictDisplayH
import HandS.Deep
import HandS.WideBits
import HandS.SetKeys
import PySem.Challenge.RW_fliponce_k29_limits_and_samples
import PyProof.StrLawsIn
set_option Elab.async false
set_option linter.all false
set_option maxRecDepth 100000
set_option maxHeartbeats 4000000
namespace Fli
open PySem L2
/-- the program and the world: what dicts with tuples for keys hash by -/
class HW where
  P : Program
  w : World
variable [HW]
/-- a dict whose keys are tuples of ints and texts: entries by key, the key's address, the value -/
def DXp (P : Program) (w : World) (a : Addr) (xs : List (List Key × Addr × V)) : Heap → Prop := fun h => xs.length ≤ sizeLine ∧ (a == sysModules) = false ∧ ∃ zs : List (List Key × Addr × Value),
  Paired (fun (p : List Key × Addr × V) (q : List Key × Addr × Value) => p.1 = q.1 ∧ p.2.1 = q.2.1 ∧ RelV p.2.2 q.2.2) xs zs ∧
  ∃ o es ep, h.get? a = some o ∧ o.ExactDict ∧ o.data = .dict es ep ∧ es.toList = zs.map (entryOfKey (tupleKind (mixKind P w))) ∧ (zs.map (·.1)).Nodup
def DX (a : Addr) (xs : List (List Key × Addr × V)) : HO := .ext (DXp HW.P HW.w a xs)

/-! data: what a value is worth, whatever its address -/
inductive D where
  | non | bl (b : Bool) | int (i : Int) | str (x : Str)
  | tup (ds : List D) | lst (ds : List D) | ins (c : Str) (fs : List (Str × D)) | scr (ns : List Int)
  | cls (c : Str) | dic (kvs : List (Key × D)) | dit (kvs : List (List Key × D))
  deriving Inhabited

/-- a tuple whose object is known to bear no dict of its own -/
def FT (ob : Obj) : Prop := ob.cls = .type "tuple" ∧ ob.dict = none
def SqF (K : PySem.W.Frag) (W : Hp) (a : Addr) (xs : List V) : Prop :=
  (∃ ob, W a = some (.frz ob (.tup xs)) ∧ FT ob) ∨
  (∃ o its n, K.lookup a = some o ∧ o.cls = .type "tuple" ∧ o.dict = none ∧ o.data = .seq its n ∧ its.size ≤ sizeLine ∧ Vals xs its.toList)
theorem SqF.t {K : PySem.W.Frag} {W : Hp} {a : Addr} {xs : List V} (h : SqF K W a xs) : SqT K W a xs := by
  rcases h with ⟨ob, h, _⟩ | ⟨o, its, n, h1, h2, _, h3, h4, h5⟩
  · exact .inl (.inr ⟨ob, h⟩)
  · exact .inr ⟨o, its, n, h1, h2, h3, h4, h5⟩

mutual
inductive DR (K : PySem.W.Frag) (mg : Str → Option Value) (W : Hp) : V → D → Prop
  | non : DR K mg W .non .non
  | bl (b : Bool) : DR K mg W (.bl b) (.bl b)
  | int (i : Int) : DR K mg W (.int i) (.int i)
  | str (x : Str) : DR K mg W (.str x) (.str x)
  | tup {a : Addr} {vs : List V} {ds : List D} : SqF K W a vs → DRs K mg W vs ds → DR K mg W (.ref a) (.tup ds)
  | lst {a : Addr} {vs : List V} {ds : List D} : W a = some (.lst vs) → DRs K mg W vs ds → DR K mg W (.ref a) (.lst ds)
  | scr {a : Addr} {ns : List Int} : SqL K W a (ns.map V.int) → DR K mg W (.ref a) (.scr ns)
  | ins {a C dx : Addr} {c : Str} {gs : List (Str × V)} {fs : List (Str × D)} : mg c = some (.ref C) → W a = some (.ins C dx gs) → DFs K mg W gs fs → DR K mg W (.ref a) (.ins c fs)
  | cls {C : Addr} {c : Str} : mg c = some (.ref C) → DR K mg W (.ref C) (.cls c)
  | dic {a : Addr} {gs : List (Key × V)} {kvs : List (Key × D)} : W a = some (.dK gs) → DKs K mg W gs kvs → DR K mg W (.ref a) (.dic kvs)
  | dit {a : Addr} {gs : List (List Key × Addr × V)} {kvs : List (List Key × D)} : W a = some (DX a gs) → DTs K mg W gs kvs → DR K mg W (.ref a) (.dit kvs)
inductive DRs (K : PySem.W.Frag) (mg : Str → Option Value) (W : Hp) : List V → List D → Prop
  | nil : DRs K mg W [] []
  | cons {v : V} {vs : List V} {d : D} {ds : List D} : DR K mg W v d → DRs K mg W vs ds → DRs K mg W (v :: vs) (d :: ds)
inductive DFs (K : PySem.W.Frag) (mg : Str → Option Value) (W : Hp) : List (Str × V) → List (Str × D) → Prop
  | nil : DFs K mg W [] []
  | cons {n : Str} {v : V} {gs : List (Str × V)} {d : D} {fs : List (Str × D)} : DR K mg W v d → DFs K mg W gs fs → DFs K mg W ((n, v) :: gs) ((n, d) :: fs)
inductive DKs (K : PySem.W.Frag) (mg : Str → Option Value) (W : Hp) : List (Key × V) → List (Key × D) → Prop
  | nil : DKs K mg W [] []
  | cons {n : Key} {v : V} {gs : List (Key × V)} {d : D} {fs : List (Key × D)} : DR K mg W v d → DKs K mg W gs fs → DKs K mg W ((n, v) :: gs) ((n, d) :: fs)
inductive DTs (K : PySem.W.Frag) (mg : Str → Option Value) (W : Hp) : List (List Key × Addr × V) → List (List Key × D) → Prop
  | nil : DTs K mg W [] []
  | cons {n : List Key} {b : Addr} {v : V} {gs : List (List Key × Addr × V)} {d : D} {fs : List (List Key × D)} : SqF K W b (n.map kV) → DR K mg W v d → DTs K mg W gs fs → DTs K mg W ((n, b, v) :: gs) ((n, d) :: fs)
end

/-- what is known stays known -/
def Le (W W' : Hp) : Prop := ∀ a o, W a = some o → W' a = some o
theorem Le.refl (W : Hp) : Le W W := fun _ _ h => h
theorem Le.trans {A B C : Hp} (x : Le A B) (y : Le B C) : Le A C := fun a o h => y a o (x a o h)
theorem Le.upd {W : Hp} {p : Addr} {o : HO} (h : W p = none) : Le W (upd W p o) := fun a u e => by
  rw [upd_ne (ne_of_none e h)]; exact e

section
variable {K : PySem.W.Frag} {mg : Str → Option Value} {W W' : Hp}
theorem sl_le {a : Addr} {vs : List V} (e : Le W W') (h : SqL K W a vs) : SqL K W' a vs := Same.seq e h
theorem sf_le {a : Addr} {vs : List V} (e : Le W W') (h : SqF K W a vs) : SqF K W' a vs := by
  rcases h with ⟨ob, h, f⟩ | h
  · exact .inl ⟨ob, e _ _ h, f⟩
  · exact .inr h
theorem st_le {a : Addr} {vs : List V} (e : Le W W') (h : SqF K W a vs) : SqT K W' a vs := (sf_le e h).t
mutual
theorem DR.le (e : Le W W') : ∀ {v : V} {d : D}, DR K mg W v d → DR K mg W' v d
  | _, _, .non => .non
  | _, _, .bl b => .bl b
  | _, _, .int i => .int i
  | _, _, .str x => .str x
  | _, _, .tup s r => .tup (sf_le e s) (DRs.le e r)
  | _, _, .lst s r => .lst (e _ _ s) (DRs.le e r)
  | _, _, .scr s => .scr (sl_le e s)
  | _, _, .ins m h r => .ins m (e _ _ h) (DFs.le e r)
  | _, _, .cls m => .cls m
  | _, _, .dic h r => .dic (e _ _ h) (DKs.le e r)
  | _, _, .dit h r => .dit (e _ _ h) (DTs.le e r)
theorem DRs.le (e : Le W W') : ∀ {vs : List V} {ds : List D}, DRs K mg W vs ds → DRs K mg W' vs ds
  | _, _, .nil => .nil
  | _, _, .cons h r => .cons (DR.le e h) (DRs.le e r)
theorem DFs.le (e : Le W W') : ∀ {gs : List (Str × V)} {fs : List (Str × D)}, DFs K mg W gs fs → DFs K mg W' gs fs
  | _, _, .nil => .nil
  | _, _, .cons h r => .cons (DR.le e h) (DFs.le e r)
theorem DKs.le (e : Le W W') : ∀ {gs : List (Key × V)} {fs : List (Key × D)}, DKs K mg W gs fs → DKs K mg W' gs fs
  | _, _, .nil => .nil
  | _, _, .cons h r => .cons (DR.le e h) (DKs.le e r)
theorem DTs.le (e : Le W W') : ∀ {gs : List (List Key × Addr × V)} {fs : List (List Key × D)}, DTs K mg W gs fs → DTs K mg W' gs fs
  | _, _, .nil => .nil
  | _, _, .cons s h r => .cons (sf_le e s) (DR.le e h) (DTs.le e r)
end
theorem DRs.len : ∀ {vs : List V} {ds : List D}, DRs K mg W vs ds → vs.length = ds.length
  | _, _, .nil => rfl
  | _, _, .cons _ r => by simp [DRs.len r]
theorem DRs.get : ∀ {vs : List V} {ds : List D} {i : Nat} {d : D}, DRs K mg W vs ds → ds[i]? = some d → ∃ v, vs[i]? = some v ∧ DR K mg W v d
  | _, _, _, _, .nil, e => by simp at e
  | _, _, 0, _, .cons h _, e => by simp at e; subst e; exact ⟨_, rfl, h⟩
  | _, _, i + 1, _, .cons _ r, e => by
    obtain ⟨v, a, b⟩ := DRs.get (i := i) r (by simpa using e)
    exact ⟨v, by simpa using a, b⟩
theorem DRs.get' : ∀ {vs : List V} {ds : List D} {i : Nat} {v : V}, DRs K mg W vs ds → vs[i]? = some v → ∃ d, ds[i]? = some d ∧ DR K mg W v d
  | _, _, _, _, .nil, e => by simp at e
  | _, _, 0, _, .cons h _, e => by simp at e; subst e; exact ⟨_, rfl, h⟩
  | _, _, i + 1, _, .cons _ r, e => by
    obtain ⟨v, a, b⟩ := DRs.get' (i := i) r (by simpa using e)
    exact ⟨v, by simpa using a, b⟩
theorem DRs.app : ∀ {vs us : List V} {ds es : List D}, DRs K mg W vs ds → DRs K mg W us es → DRs K mg W (vs ++ us) (ds ++ es)
  | _, _, _, _, .nil, s => s
  | _, _, _, _, .cons h r, s => .cons h (DRs.app r s)
theorem DRs.take : ∀ {vs : List V} {ds : List D} (n : Nat), DRs K mg W vs ds → DRs K mg W (vs.take n) (ds.take n)
  | _, _, 0, _ => .nil
  | _, _, _ + 1, .nil => .nil
  | _, _, n + 1, .cons h r => .cons h (DRs.take n r)
theorem DRs.drop : ∀ {vs : List V} {ds : List D} (n : Nat), DRs K mg W vs ds → DRs K mg W (vs.drop n) (ds.drop n)
  | _, _, 0, r => r
  | _, _, _ + 1, .nil => .nil
  | _, _, n + 1, .cons _ r => DRs.drop n r
theorem DRs.set {v : V} {d : D} (h : DR K mg W v d) : ∀ {vs : List V} {ds : List D} (n : Nat), DRs K mg W vs ds → DRs K mg W (vs.set n v) (ds.set n d)
  | _, _, _, .nil => .nil
  | _, _, 0, .cons _ r => .cons h r
  | _, _, n + 1, .cons g r => .cons g (DRs.set h n r)
theorem DRs.erase : ∀ {vs : List V} {ds : List D} (n : Nat), DRs K mg W vs ds → DRs K mg W (vs.eraseIdx n) (ds.eraseIdx n)
  | _, _, _, .nil => .nil
  | _, _, 0, .cons _ r => r
  | _, _, n + 1, .cons g r => .cons g (DRs.erase n r)
end

/-! what a slot holds: data, or an object of its own that no one else knows -/
inductive O where
  | lst (ds : List D) | obj (c : Str) (fs : List (Str × D)) | dic (kvs : List (Key × D)) | dit (kvs : List (List Key × D))
inductive A where
  | d (x : D) | own (o : O)
abbrev S := List (Option A)
def O.d : O → D
  | .lst ds => .lst ds
  | .obj c fs => .ins c fs
  | .dic kvs => .dic kvs
  | .dit kvs => .dit kvs

def OR (K : PySem.W.Frag) (mg : Str → Option Value) (H W : Hp) (a : Addr) (o : O) : Prop :=
  W a = none ∧ match o with
    | .lst ds => ∃ vs, H a = some (.lst vs) ∧ DRs K mg W vs ds
    | .obj c fs => ∃ C dx gs, mg c = some (.ref C) ∧ H a = some (.ins C dx gs) ∧ DFs K mg W gs fs
    | .dic kvs => ∃ gs, H a = some (.dK gs) ∧ DKs K mg W gs kvs
    | .dit kvs => ∃ gs, H a = some (DX a gs) ∧ DTs K mg W gs kvs
def Own (sd : S) (σ : L2.St) (a : Addr) : Prop := ∃ (i : Nat) (o : O), sd[i]? = some (some (.own o)) ∧ σ[i]? = some (some (.ref a))

structure St (K : PySem.W.Frag) (mg : Str → Option Value) (sd : S) (σ : L2.St) (H W : Hp) : Prop where
  le : Le W H
  len : sd.length = σ.length
  dat : ∀ (i : Nat) (d : D), sd[i]? = some (some (.d d)) → ∃ v, σ[i]? = some (some v) ∧ DR K mg W v d
  own : ∀ (i : Nat) (o : O), sd[i]? = some (some (.own o)) → ∃ a, σ[i]? = some (some (.ref a)) ∧ OR K mg H W a o
  inj : ∀ (i j : Nat) (o u : O) (a : Addr), sd[i]? = some (some (.own o)) → sd[j]? = some (some (.own u)) → σ[i]? = some (some (.ref a)) → σ[j]? = some (some (.ref a)) → i = j

structure Kp (sd : S) (σ : L2.St) (H W : Hp) (sd' : S) (σ' : L2.St) (H' W' : Hp) : Prop where
  le : Le W W'
  keep : ∀ a o, H a = some o → ¬ Own sd σ a → H' a = some o
  new : ∀ a, W a = none → H a ≠ none → ¬ Own sd σ a → W' a = none
  own : ∀ a, Own sd' σ' a → Own sd σ a ∨ H a = none
  there : ∀ a, H a ≠ none → H' a ≠ none

section
variable {K : PySem.W.Frag} {mg : Str → Option Value} {sd sd1 sd2 : S} {σ σ1 σ2 : L2.St} {H H1 H2 W W1 W2 : Hp}
theorem Kp.refl : Kp sd σ H W sd σ H W := ⟨Le.refl _, fun _ _ h _ => h, fun _ h _ _ => h, fun _ h => .inl h, fun _ h => h⟩
theorem Kp.trans (a : Kp sd σ H W sd1 σ1 H1 W1) (b : Kp sd1 σ1 H1 W1 sd2 σ2 H2 W2) : Kp sd σ H W sd2 σ2 H2 W2 := by
  have no : ∀ p, H p ≠ none → ¬ Own sd σ p → ¬ Own sd1 σ1 p := fun p h n o => (a.own p o).elim n fun z => h z
  refine ⟨a.le.trans b.le, fun p o h n => ?_, fun p h h' n => ?_, fun p o => ?_, fun p h => b.there p (a.there p h)⟩
  · exact b.keep p o (a.keep p o h n) (no p (by rw [h]; simp) n)
  · exact b.new p (a.new p h h' n) (a.there p h') (no p h' n)
  · rcases b.own p o with z | z
    · exact a.own p z
    · refine .inr ?_
      cases q : H p with
      | none => rfl
      | some u => exact absurd z (a.there p (by rw [q]; simp))
end

/-! rules that make tuples, with what is known of their objects -/
section
open PySem.Spec PyProof.Rows
variable {X : Cx}
theorem ft_new {its : Array Value} : FT ({ cls := .type "tuple", data := .seq its } : Obj) := ⟨rfl, rfl⟩
theorem lay_F {pins : List (Addr × Obj)} {σ : L2.St} {H : Hp} {s : Shared} {xs : List V} {us : List Value} (I : Inv X pins σ H s) (r : Vals xs us) (z : xs.length ≤ sizeLine) :
    Inv X pins σ (upd H s.heap.objs.size (.frz { cls := .type "tuple", data := .seq us.toArray } (.tup xs))) { s with heap := s.heap.push { cls := .type "tuple", data := .seq us.toArray } } :=
  I.laid (t' := s.toks) (fun _ _ e => Heap.get?_push_of_some _ e) (Nat.le_refl _) ⟨Heap.get?_push_size _ rfl, z, us, r, IsTup.new _ _⟩
def tTupF (t : TA) : TE := fun σ H Q => t σ H fun xs H1 => xs.length ≤ sizeLine ∧ ∀ p ob, H1 p = none → FT ob → Q (.ref p) (upd H1 p (.frz ob (.tup xs)))
theorem pe_tupF {es : List Expr} {t : TA} {pos : Pos} {k : Nat} (h : PA X es t) : PE X (.Tuple es k pos) (tTupF t) := by
  constructor
  intro pins s σ H Q I hq
  refine wpAny_Tuple_spliced (thn (h.run pos pins s σ H _ I hq) ?_)
  rintro us s1 ⟨xs, H1, I1, r, z, q⟩
  exact ⟨by rw [← r.length]; exact z, .ref s1.heap.objs.size, _, lay_F I1 r z, rfl, q _ _ (I1.hok.fresh (Nat.le_refl _)) ft_new⟩
def rTupF (K : PySem.W.Frag) : List V → Hp → VK → Prop := fun xs H Q => ∃ p ys, xs = [.ref p] ∧
  ((SqL K H p ys ∧ ∀ l ob, H l = none → FT ob → Q (.ref l) (upd H l (.frz ob (.tup ys)))) ∨ (SqT K H p ys ∧ Q (.ref p) H))
theorem call_tupleF : CallR X (.type "tuple") (rTupF X.K) := by
  intro pins s σ H xs us Q I r h
  obtain ⟨p, ys, rfl, h⟩ := h
  obtain ⟨u, rfl, rx⟩ := vals1 r
  cases rx
  rcases h with ⟨hq, q⟩ | ⟨hq, q⟩
  · obtain ⟨its, r', pl, hz⟩ := I.list hq
    have hlen := r'.length
    refine call_tuple_list pl.isList (fun h' kp => ?_) (by simp only [List.size_toArray] <;> omega)
    have I1 : Inv X pins σ H { s with heap := h' } := I.kept (t' := s.toks) kp
    exact ⟨.ref h'.objs.size, _, lay_F I1 r' hz, rfl, q _ _ (I1.hok.fresh (Nat.le_refl _)) ft_new⟩
  · obtain ⟨its, r', pl, hz⟩ := I.tuple hq
    exact call_tuple_same pl ⟨.ref p, H, I, rfl, q⟩
def rSlF (K : PySem.W.Frag) : V → Option Int → Option Int → Hp → VK → Prop := fun x lo hi H Q => ∃ a xs, x = .ref a ∧ SqT K H a xs ∧
  (HT.sIx xs.length 0 lo = 0 ∧ HT.sIx xs.length xs.length hi = xs.length → Q (.ref a) H) ∧
  (¬ (HT.sIx xs.length 0 lo = 0 ∧ HT.sIx xs.length xs.length hi = xs.length) → ∀ p ob, H p = none → FT ob → Q (.ref p) (upd H p (.frz ob (.tup (cutV xs lo hi)))))
theorem sl_tupF : SlR X (rSlF X.K) := by
  intro pins s σ H x v vl vu lo hi sl Q I rx hs pl pu h
  obtain ⟨a, xs, rfl, hx, q1, q2⟩ := h
  cases rx
  obtain ⟨its, r, ht, hz⟩ := I.tuple hx
  have hlen : its.toArray.size = xs.length := by rw [List.size_toArray]; exact r.length.symm
  refine ⟨"tuple", _, PyProof.Rows.slot_tuple_getitem.lookup, ht.typeIs, ?_⟩
  by_cases hw : HT.sIx xs.length 0 lo = 0 ∧ HT.sIx xs.length xs.length hi = xs.length
  · exact getItem_tuple_whole ht hs pl pu (by rw [hlen]; exact hw) ⟨.ref a, H, I, rfl, q1 hw⟩
  · refine HT.getItem_tuple_cut ht hs pl pu (by rw [hlen]; exact hw) ?_ (by rw [hlen]; exact hz)
    rw [hlen]
    have rc := (r.drop (HT.sIx xs.length 0 lo)).take (HT.sIx xs.length xs.length hi - HT.sIx xs.length 0 lo)
    exact ⟨.ref s.heap.objs.size, _, lay_F I (xs := cutV xs lo hi) rc (Nat.le_trans (cutV_length xs lo hi) hz), rfl, q2 hw _ _ (I.hok.fresh (Nat.le_refl _)) ft_new⟩
def rCatF (K : PySem.W.Frag) : R2 := fun x y H Q => ∃ a b xs ys, x = .ref a ∧ y = .ref b ∧ SqT K H a xs ∧ SqT K H b ys ∧ xs.length + ys.length ≤ sizeLine ∧
  (xs = [] → Q (.ref b) H) ∧ (xs ≠ [] → ys = [] → Q (.ref a) H) ∧ (xs ≠ [] → ys ≠ [] → ∀ p ob, H p = none → FT ob → Q (.ref p) (upd H p (.frz ob (.tup (xs ++ ys)))))
theorem op_catF : OpR X (binaryOp .Add) (rCatF X.K) := by
  intro pins s σ H x y v u Q I rx ry h
  obtain ⟨a, b, xs, ys, rfl, rfl, ha, hb, hz, q0, q1, q2⟩ := h
  cases rx
  cases ry
  obtain ⟨its, r1, p1, _⟩ := I.tuple ha
  obtain ⟨its2, r2, p2, _⟩ := I.tuple hb
  by_cases hx : xs = []
  · subst hx
    cases r1
    exact cat_tup0 p1 p2 ⟨.ref b, H, I, rfl, q0 rfl⟩
  · have nz : ∀ {zs : List V} {ws : List Value}, Vals zs ws → ws = [] → zs = [] := fun r e => by subst e; cases r; rfl
    have zn : ∀ {zs : List V} {ws : List Value}, Vals zs ws → zs = [] → ws = [] := fun r e => by subst e; cases r; rfl
    refine HT.cat_tup p1 p2 (fun z => hx (nz r1 z)) (fun z => ⟨.ref a, H, I, rfl, q1 hx (nz r2 z)⟩) (fun z => ?_) (by rw [← r1.length, ← r2.length]; exact hz)
    exact ⟨.ref s.heap.objs.size, _, lay_F I (r1.append r2) (by rw [List.length_append]; exact hz), rfl, q2 hx (fun w => z (zn r2 w)) _ _ (I.hok.fresh (Nat.le_refl _)) ft_new⟩
end
end Fli
set_option Elab.async false
set_option linter.all false
set_option maxRecDepth 100000
set_option maxHeartbeats 4000000
namespace Fli
open PySem L2
variable [HW]

theorem PE.imp {X : Cx} {e : Expr} {t t' : TE} (h : PE X e t) (f : ∀ σ H Q, t' σ H Q → t σ H Q) : PE X e t' := ⟨fun p s σ H Q I q => h.run p s σ H Q I (f σ H Q q)⟩
theorem PT.imp {X : Cx} {e : Expr} {t t' : TT} (h : PT X e t) (f : ∀ σ H Q, t' σ H Q → t σ H Q) : PT X e t' := ⟨fun p s σ H Q I q => h.run p s σ H Q I (f σ H Q q)⟩
theorem PW.imp {X : Cx} {e : Expr} {t t' : TT} (h : PW X e t) (f : ∀ σ H Q, t' σ H Q → t σ H Q) : PW X e t' := ⟨fun z p s σ H Q I q => h.run z p s σ H Q I (f σ H Q q)⟩
theorem PA.imp {X : Cx} {e : List Expr} {t t' : TA} (h : PA X e t) (f : ∀ σ H Q, t' σ H Q → t σ H Q) : PA X e t' := ⟨fun z p s σ H Q I q => h.run z p s σ H Q I (f σ H Q q)⟩
theorem PO.imp {X : Cx} {e : Option Expr} {t t' : TO} (h : PO X e t) (f : ∀ σ H Q, t' σ H Q → t σ H Q) : PO X e t' := ⟨fun p s σ H Q I q => h.run p s σ H Q I (f σ H Q q)⟩
theorem PS.imp {X : Cx} {e : Stmt} {t t' : TS} (h : PS X e t) (f : ∀ D σ H, t' D σ H → t D σ H) : PS X e t' := ⟨fun p s σ H D I q => h.run p s σ H D I (f D σ H q)⟩
theorem PSs.imp {X : Cx} {e : List Stmt} {t t' : TS} (h : PSs X e t) (f : ∀ D σ H, t' D σ H → t D σ H) : PSs X e t' := ⟨fun p s σ H D I q => h.run p s σ H D I (f D σ H q)⟩

/-! how a mirror runs -/
abbrev M (α : Type) := S → Option (α × S)
def bindM {α β : Type} (m : M α) (f : α → M β) : M β := fun s => (m s).bind fun p => f p.1 p.2
def retM {α : Type} (a : α) : M α := fun s => some (a, s)
def optM {α : Type} (o : Option α) : M α := fun s => o.map fun a => (a, s)
theorem bindM_some {α β : Type} {m : M α} {f : α → M β} {s s' : S} {b : β} (h : bindM m f s = some (b, s')) : ∃ a s1, m s = some (a, s1) ∧ f a s1 = some (b, s') := by
  unfold bindM at h
  cases e : m s with
  | none => rw [e] at h; cases h
  | some p => rw [e] at h; exact ⟨p.1, p.2, rfl, h⟩
theorem optM_some {α : Type} {o : Option α} {s s' : S} {a : α} (h : optM o s = some (a, s')) : o = some a ∧ s' = s := by
  unfold optM at h
  cases o with
  | none => cases h
  | some b => cases h; exact ⟨rfl, rfl⟩

section
variable (K : PySem.W.Frag) (mg : Str → Option Value)
/-- a mirror's run from the state at hand, ending in data | in an object of its own | in a bool | in data, one by one | in a part of a slice -/
def tD (m : M D) : TE := fun σ H Q => ∃ sd W d sd', St K mg sd σ H W ∧ m sd = some (d, sd') ∧ ∀ v H' W', St K mg sd' σ H' W' → Kp sd σ H W sd' σ H' W' → DR K mg W' v d → Q v H'
def tO (m : M O) : TE := fun σ H Q => ∃ sd W o sd', St K mg sd σ H W ∧ m sd = some (o, sd') ∧ ∀ p H' W', St K mg sd' σ H' W' → Kp sd σ H W sd' σ H' W' → OR K mg H' W' p o → ¬ Own sd' σ p → H p = none → Q (.ref p) H'
def tB (m : M Bool) : TT := fun σ H Q => ∃ sd W d sd', St K mg sd σ H W ∧ m sd = some (d, sd') ∧ ∀ H' W', St K mg sd' σ H' W' → Kp sd σ H W sd' σ H' W' → Q d H'
def tL (m : M (List D)) : TA := fun σ H Q => ∃ sd W d sd', St K mg sd σ H W ∧ m sd = some (d, sd') ∧ ∀ v H' W', St K mg sd' σ H' W' → Kp sd σ H W sd' σ H' W' → DRs K mg W' v d → Q v H'
def tP (m : M (Option Int)) : TO := fun σ H Q => ∃ sd W d sd', St K mg sd σ H W ∧ m sd = some (d, sd') ∧ ∀ H' W', St K mg sd' σ H' W' → Kp sd σ H W sd' σ H' W' → Q d H'
end
abbrev DE (X : Cx) (e : Expr) (m : M D) : Prop := PE X e (tD X.K X.mg m)
abbrev OE (X : Cx) (e : Expr) (m : M O) : Prop := PE X e (tO X.K X.mg m)
abbrev BT (X : Cx) (e : Expr) (m : M Bool) : Prop := PT X e (tB X.K X.mg m)
abbrev BW (X : Cx) (e : Expr) (m : M Bool) : Prop := PW X e (tB X.K X.mg m)
abbrev LA (X : Cx) (es : List Expr) (m : M (List D)) : Prop := PA X es (tL X.K X.mg m)
abbrev IP (X : Cx) (e : Option Expr) (m : M (Option Int)) : Prop := PO X e (tP X.K X.mg m)

section
variable {K : PySem.W.Frag} {mg : Str → Option Value} {sd : S} {σ : L2.St} {H H' W W' : Hp}
/-- new things may come, seen or unseen, nothing else changes -/
theorem St.grow (h : St K mg sd σ H W) (a : Le W W') (b : Le W' H') (c : Le H H') (n : ∀ a, W a = none → H a ≠ none → W' a = none) : St K mg sd σ H' W' ∧ Kp sd σ H W sd σ H' W' := by
  refine ⟨⟨b, h.len, fun i d e => ?_, fun i o e => ?_, h.inj⟩, ⟨a, fun p o q _ => c p o q, fun p q r _ => n p q r, fun p q => .inl q, fun p q => ?_⟩⟩
  · obtain ⟨v, e1, r⟩ := h.dat i d e
    exact ⟨v, e1, r.le a⟩
  · obtain ⟨p, e1, w, r⟩ := h.own i o e
    cases o with
    | lst ds =>
      obtain ⟨vs, r1, r2⟩ := r
      exact ⟨p, e1, n p w (by rw [r1]; simp), vs, c _ _ r1, r2.le a⟩
    | obj cc fs =>
      obtain ⟨C, dx, gs, r0, r1, r2⟩ := r
      exact ⟨p, e1, n p w (by rw [r1]; simp), C, dx, gs, r0, c _ _ r1, r2.le a⟩
    | dic kvs =>
      obtain ⟨gs, r1, r2⟩ := r
      exact ⟨p, e1, n p w (by rw [r1]; simp), gs, c _ _ r1, r2.le a⟩
    | dit kvs =>
      obtain ⟨gs, r1, r2⟩ := r
      exact ⟨p, e1, n p w (by rw [r1]; simp), gs, c _ _ r1, r2.le a⟩
  · cases e : H p with
    | none => exact absurd e q
    | some o => rw [c p o e]; simp
theorem St.free (h : St K mg sd σ H W) {p : Addr} (e : H p = none) : W p = none := by
  cases q : W p with
  | none => rfl
  | some o => rw [h.le p o q] at e; cases e
/-- one new thing, seen by all -/
theorem St.newV (h : St K mg sd σ H W) {p : Addr} (e : H p = none) (o : HO) : St K mg sd σ (upd H p o) (upd W p o) ∧ Kp sd σ H W sd σ (upd H p o) (upd W p o) := by
  refine h.grow (Le.upd (h.free e)) (fun a u q => ?_) (Le.upd e) fun a q r => ?_
  · by_cases z : a = p
    · subst z; rw [upd_same] at q ⊢; exact q
    · rw [upd_ne z] at q ⊢; exact h.le a u q
  · have z : a ≠ p := fun z => r (z ▸ e)
    rw [upd_ne z]; exact q
/-- one new thing, not yet seen -/
theorem St.newO (h : St K mg sd σ H W) {p : Addr} (e : H p = none) (o : HO) : St K mg sd σ (upd H p o) W ∧ Kp sd σ H W sd σ (upd H p o) W :=
  h.grow (Le.refl _) (fun a u q => Le.upd e a u (h.le a u q)) (Le.upd e) fun a q _ => q
theorem St.notOwn (h : St K mg sd σ H W) {p : Addr} (e : H p = none) : ¬ Own sd σ p := fun ⟨i, o, e1, e2⟩ => by
  obtain ⟨a, e3, w, r⟩ := h.own i o e1
  rw [e2] at e3; cases e3
  cases o with
  | lst ds => obtain ⟨vs, r1, _⟩ := r; rw [e] at r1; cases r1
  | obj cc fs => obtain ⟨C, dx, gs, _, r1, _⟩ := r; rw [e] at r1; cases r1
  | dic kvs => obtain ⟨gs, r1, _⟩ := r; rw [e] at r1; cases r1
  | dit kvs => obtain ⟨gs, r1, _⟩ := r; rw [e] at r1; cases r1
theorem Kp.fresh {sd' : S} {σ' : L2.St} (k : Kp sd σ H W sd' σ' H' W') {p : Addr} (e : H' p = none) : H p = none := by
  cases q : H p with
  | none => rfl
  | some o => exact absurd e (k.there p (by rw [q]; simp))
end

section
variable {X : Cx} {e a b c : Expr} {pos : Pos}
/-! freezing -/
theorem e_frz {m : M O} (h : OE X e m) : DE X e (bindM m fun o => retM o.d) := PE.imp h fun σ H Q ⟨sd, W, d, sd', st, em, q⟩ => by
  obtain ⟨o, s1, e1, e2⟩ := bindM_some em
  cases e2
  refine ⟨sd, W, o, sd', st, e1, fun p H' W' st' kp r no hp => ?_⟩
  obtain ⟨w, r⟩ := r
  have mk : ∀ u, H' p = some u → St X.K X.mg sd' σ H' (upd W' p u) ∧ Kp sd σ H W sd' σ H' (upd W' p u) := fun u hu => by
    refine ⟨⟨fun x y z => ?_, st'.len, fun i d ei => ?_, fun i o' ei => ?_, st'.inj⟩, ⟨kp.le.trans (Le.upd w), kp.keep, fun x y z n => ?_, kp.own, kp.there⟩⟩
    · by_cases h : x = p
      · subst h; rw [upd_same] at z; rw [← z]; exact hu
      · rw [upd_ne h] at z; exact st'.le x y z
    · obtain ⟨v, g, r⟩ := st'.dat i d ei
      exact ⟨v, g, r.le (Le.upd w)⟩
    · obtain ⟨x, g, w', r⟩ := st'.own i o' ei
      have ne : x ≠ p := fun z => no ⟨i, o', ei, z ▸ g⟩
      refine ⟨x, g, by rw [upd_ne ne]; exact w', ?_⟩
      cases o' with
      | lst ds => obtain ⟨vs, r1, r2⟩ := r; exact ⟨vs, r1, r2.le (Le.upd w)⟩
      | obj cc fs => obtain ⟨C, dx, gs, r0, r1, r2⟩ := r; exact ⟨C, dx, gs, r0, r1, r2.le (Le.upd w)⟩
      | dic kvs => obtain ⟨gs, r1, r2⟩ := r; exact ⟨gs, r1, r2.le (Le.upd w)⟩
      | dit kvs => obtain ⟨gs, r1, r2⟩ := r; exact ⟨gs, r1, r2.le (Le.upd w)⟩
    · have ne : x ≠ p := fun h => z (h ▸ hp)
      rw [upd_ne ne]; exact kp.new x y z n
  cases o with
  | lst ds =>
    obtain ⟨vs, r1, r2⟩ := r
    obtain ⟨g1, g2⟩ := mk _ r1
    exact q _ _ _ g1 g2 (.lst upd_same (r2.le (Le.upd w)))
  | obj cc fs =>
    obtain ⟨C, dx, gs, r0, r1, r2⟩ := r
    obtain ⟨g1, g2⟩ := mk _ r1
    exact q _ _ _ g1 g2 (.ins r0 upd_same (r2.le (Le.upd w)))
  | dic kvs =>
    obtain ⟨gs, r1, r2⟩ := r
    obtain ⟨g1, g2⟩ := mk _ r1
    exact q _ _ _ g1 g2 (.dic upd_same (r2.le (Le.upd w)))
  | dit kvs =>
    obtain ⟨gs, r1, r2⟩ := r
    obtain ⟨g1, g2⟩ := mk _ r1
    exact q _ _ _ g1 g2 (.dit upd_same (r2.le (Le.upd w)))

/-! leaves -/
def mVar (i : Nat) : M D := fun s => match s[i]? with
  | some (some (.d d)) => some (d, s)
  | _ => none
theorem mVar_some {i : Nat} {s s' : S} {d : D} (h : mVar i s = some (d, s')) : s[i]? = some (some (.d d)) ∧ s' = s := by
  unfold mVar at h
  split at h
  · cases h; exact ⟨by assumption, rfl⟩
  · cases h
theorem e_var (i : Nat) {x : Str} (hN : X.N[i]? = some x := by rfl) (hv : Vis X.env.scope x := by first | exact Or.inl rfl | exact Or.inr (Or.inl rfl) | exact Or.inr (Or.inr rfl)) (hd : (x == ("__debug__" : Str)) = false := by decide)
    (hcd : (x == ("__classdict__" : Str)) = false := by decide) : DE X (.Name x pos) (mVar i) := PE.imp (pe_var (i := i) hN hv hd hcd) fun σ H Q ⟨sd, W, d, sd', st, em, q⟩ => by
  obtain ⟨e1, rfl⟩ := mVar_some em
  obtain ⟨v, e2, r⟩ := st.dat i d e1
  exact ⟨v, e2, q v H W st Kp.refl r⟩
theorem e_con {v : V} {d : D} (h : PE X e (tC v)) (r : ∀ W, DR X.K X.mg W v d) : DE X e (retM d) := PE.imp h fun σ H Q ⟨sd, W, d', sd', st, em, q⟩ => by
  cases em
  exact q v H W st Kp.refl (r W)
theorem e_int {i : Int} {j : Nat} : DE X (.Constant (.int i) j pos) (retM (.int i)) := e_con pe_int fun _ => .int i
theorem e_bl {i : Bool} {j : Nat} : DE X (.Constant (.bool i) j pos) (retM (.bl i)) := e_con pe_bl fun _ => .bl i
theorem e_non {j : Nat} : DE X (.Constant .none j pos) (retM .non) := e_con pe_non fun _ => .non
theorem e_str {i : Str} {j : Nat} : DE X (.Constant (.str i) j pos) (retM (.str i)) := e_con pe_str fun _ => .str i
theorem e_glob {x : Str} {v : V} {u : Value} {d : D} (hg : Gl X x) (hm : X.mg x = some u) (r : RelV v u) (rd : ∀ W, DR X.K X.mg W v d) (hd : (x == ("__debug__" : Str)) = false := by decide) : DE X (.Name x pos) (retM d) := e_con (pe_glob hg hm r hd) rd

/-! operators: what a rule on values gives, told by data -/
def R2D (K : PySem.W.Frag) (mg : Str → Option Value) (r : R2) (f : D → D → Option D) : Prop :=
  ∀ x y z vx vy sd σ H W, St K mg sd σ H W → DR K mg W vx x → DR K mg W vy y → f x y = some z → ∀ Q : VK, (∀ v H' W', St K mg sd σ H' W' → Kp sd σ H W sd σ H' W' → DR K mg W' v z → Q v H') → r vx vy H Q
def R2O (K : PySem.W.Frag) (mg : Str → Option Value) (r : R2) (f : D → D → Option O) : Prop :=
  ∀ x y z vx vy sd σ H W, St K mg sd σ H W → DR K mg W vx x → DR K mg W vy y → f x y = some z → ∀ Q : VK, (∀ p H' W', St K mg sd σ H' W' → Kp sd σ H W sd σ H' W' → OR K mg H' W' p z → H p = none → Q (.ref p) H') → r vx vy H Q
/-- a rule that gives one value and leaves all as it is -/
theorem R2D.of {K : PySem.W.Frag} {mg : Str → Option Value} {r : R2} {f : D → D → Option D} (h : ∀ x y z vx vy H W, Le W H → DR K mg W vx x → DR K mg W vy y → f x y = some z → ∀ Q : VK, (∀ v, DR K mg W v z → Q v H) → r vx vy H Q) : R2D K mg r f :=
  fun x y z vx vy sd σ H W st hx hy hf Q q => h x y z vx vy H W st.le hx hy hf Q fun v hv => q v H W st Kp.refl hv
def mBin (f : D → D → Option D) (a b : M D) : M D := bindM a fun x => bindM b fun y => optM (f x y)
def mBinO (f : D → D → Option O) (a b : M D) : M O := bindM a fun x => bindM b fun y => optM (f x y)
theorem t_bin {K : PySem.W.Frag} {mg : Str → Option Value} {r : R2} {f : D → D → Option D} {ma mb : M D} (hr : R2D K mg r f) {σ : L2.St} {H : Hp} {Q : VK} (h : tD K mg (mBin f ma mb) σ H Q) : tOp r (tD K mg ma) (tD K mg mb) σ H Q := by
  obtain ⟨sd, W, d, sd', st, em, q⟩ := h
  obtain ⟨x, s1, e1, em⟩ := bindM_some em
  obtain ⟨y, s2, e2, em⟩ := bindM_some em
  obtain ⟨e3, rfl⟩ := optM_some em
  refine ⟨sd, W, x, s1, st, e1, fun v H1 W1 st1 k1 r1 => ⟨s1, W1, y, sd', st1, e2, fun u H2 W2 st2 k2 r2 => ?_⟩⟩
  exact hr x y d v u sd' σ H2 W2 st2 (r1.le k2.le) r2 e3 Q fun w H3 W3 st3 k3 r3 => q w H3 W3 st3 ((k1.trans k2).trans k3) r3
theorem t_binO {K : PySem.W.Frag} {mg : Str → Option Value} {r : R2} {f : D → D → Option O} {ma mb : M D} (hr : R2O K mg r f) {σ : L2.St} {H : Hp} {Q : VK} (h : tO K mg (mBinO f ma mb) σ H Q) : tOp r (tD K mg ma) (tD K mg mb) σ H Q := by
  obtain ⟨sd, W, d, sd', st, em, q⟩ := h
  obtain ⟨x, s1, e1, em⟩ := bindM_some em
  obtain ⟨y, s2, e2, em⟩ := bindM_some em
  obtain ⟨e3, rfl⟩ := optM_some em
  refine ⟨sd, W, x, s1, st, e1, fun v H1 W1 st1 k1 r1 => ⟨s1, W1, y, sd', st1, e2, fun u H2 W2 st2 k2 r2 => ?_⟩⟩
  exact hr x y d v u sd' σ H2 W2 st2 (r1.le k2.le) r2 e3 Q fun w H3 W3 st3 k3 r3 hp => q w H3 W3 st3 ((k1.trans k2).trans k3) r3 (fun hw => ((k3.own w hw).elim (st2.notOwn hp) fun z => st2.notOwn hp (by exact hw))) ((k1.trans k2).fresh hp)
theorem e_op {op : Operator} {r : R2} {f : D → D → Option D} {ma mb : M D} (ho : OpR X (binaryOp op) r) (hr : R2D X.K X.mg r f) (ha : DE X a ma) (hb : DE X b mb) : DE X (.BinOp a op b pos) (mBin f ma mb) := PE.imp (pe_op ho ha hb) fun _ _ _ h => t_bin hr h
theorem e_opO {op : Operator} {r : R2} {f : D → D → Option O} {ma mb : M D} (ho : OpR X (binaryOp op) r) (hr : R2O X.K X.mg r f) (ha : DE X a ma) (hb : DE X b mb) : OE X (.BinOp a op b pos) (mBinO f ma mb) := PE.imp (pe_op ho ha hb) fun _ _ _ h => t_binO hr h
theorem e_cmp {op : CmpOp} {r : R2} {f : D → D → Option D} {ma mb : M D} (ho : OpR X (compareOp op) r) (hr : R2D X.K X.mg r f) (ha : DE X a ma) (hb : DE X b mb) (hm : behindInMarks op b = false) : DE X (.Compare a [op] [b] pos) (mBin f ma mb) := PE.imp (pe_cmpR ho ha hb hm) fun _ _ _ h => t_bin hr h
end
end Fli
set_option Elab.async false
set_option linter.all false
set_option maxRecDepth 100000
set_option maxHeartbeats 4000000
namespace Fli
open PySem L2
variable [HW]

/-! what operations give, on data -/
def sl : Nat := 16777216
theorem sl_eq : sl = sizeLine := rfl
def addD : D → D → Option D
  | .int a, .int b => some (.int (a + b))
  | .str a, .str b => if a.length + b.length ≤ sizeLine then some (.str (a ++ b)) else none
  | .tup as, .tup bs => if as.length + bs.length ≤ sizeLine then some (.tup (as ++ bs)) else none
  | _, _ => none
def catD : D → D → Option O
  | .lst as, .lst bs => if as.length + bs.length ≤ sizeLine then some (.lst (as ++ bs)) else none
  | _, _ => none
def subD : D → D → Option D
  | .int a, .int b => some (.int (a - b))
  | _, _ => none
instance (a b : Int) : Decidable (CMul a b) := by unfold CMul; infer_instance
instance (a b : Int) : Decidable (CDivN a b) := by unfold CDivN; infer_instance
instance (a b : Int) : Decidable (CPow a b) := by unfold CPow; infer_instance
def mulD : D → D → Option D
  | .int a, .int b => if CMul a b then some (.int (a * b)) else none
  | _, _ => none
def divD : D → D → Option D
  | .int a, .int b => if CDivN a b then some (.int (a.fdiv b)) else none
  | _, _ => none
def modD : D → D → Option D
  | .int a, .int b => if b ≠ 0 then some (.int (a.fmod b)) else none
  | _, _ => none
def powD : D → D → Option D
  | .int a, .int b => if CPow a b then some (.int (a ^ b.toNat)) else none
  | _, _ => none
def cmpD (p : Int → Int → Bool) : D → D → Option D
  | .int a, .int b => some (.bl (p a b))
  | _, _ => none
def atD (x i : D) : Option D := match x, i with
  | .lst ds, .int i => atI ds i
  | .tup ds, .int i => atI ds i
  | .scr ns, .int i => (atI ns i).map .int
  | .str z, .int i => if z.length ≤ sizeLine then (atI z.cps.toList i).map fun c => .str ⟨#[c]⟩ else none
  | _, _ => none
def truD : D → Option Bool
  | .non => some false
  | .bl b => some b
  | .int i => some (i != 0)
  | .str z => if z.length ≤ sizeLine then some ((z.length : Int) != 0) else none
  | .tup ds => some !ds.isEmpty
  | .lst ds => some !ds.isEmpty
  | .scr ns => some !ns.isEmpty
  | .ins _ _ => none
  | .cls _ => none
  | .dic _ => none
  | .dit _ => none
def notD : D → Option D := fun d => (truD d).map fun k => .bl !k
mutual
def toPy : D → Option PyData
  | .non => some .none
  | .bl b => some (.bool b)
  | .int i => some (.int i)
  | .str x => some (.str x)
  | .tup ds => (toPys ds).map .tuple
  | .lst ds => (toPys ds).map .list
  | .scr ns => some (.list (ns.map .int))
  | .ins _ _ => none
  | .cls _ => none
  | .dic _ => none
  | .dit _ => none
def toPys : List D → Option (List PyData)
  | [] => some []
  | d :: ds => (toPy d).bind fun x => (toPys ds).map fun xs => x :: xs
end
def eqD (neg : Bool) (x y : D) : Option D := (toPy x).bind fun a => (toPy y).bind fun b => if SeqAt.shaped a = true ∧ SeqAt.shaped b = true then some (.bl (neg ^^ PyData.eqv a b)) else none
/-- flat data -/
def flD : D → Option V
  | .non => some .non
  | .bl b => some (.bl b)
  | .int i => some (.int i)
  | .str x => some (.str x)
  | _ => none
def flDs : List D → Option (List V)
  | [] => some []
  | d :: ds => (flD d).bind fun x => (flDs ds).map fun xs => x :: xs
def inD (neg : Bool) (x y : D) : Option D := match y with
  | .lst ds => (flD x).bind fun a => (flDs ds).map fun bs => .bl (neg ^^ inV a bs)
  | .tup ds => (flD x).bind fun a => (flDs ds).map fun bs => .bl (neg ^^ inV a bs)
  | .str z => match x with
    | .str c => if neg then none else some (.bl !(Builtin.Str.occurrences z c 0 z.length 1).isEmpty)
    | _ => none
  | _ => none
def isND (neg : Bool) (x y : D) : Option D := match y, x with
  | .non, .non => some (.bl !neg)
  | .non, _ => some (.bl neg)
  | _, _ => none

section
variable {K : PySem.W.Frag} {mg : Str → Option Value} {W : Hp}
theorem at_rs {vs : List V} {ds : List D} (r : DRs K mg W vs ds) {i : Int} {d : D} (h : atI ds i = some d) : ∃ v, atI vs i = some v ∧ DR K mg W v d := by
  unfold atI at h ⊢
  rw [r.len]
  cases e : ixN ds.length i with
  | none => rw [e] at h; cases h
  | some j =>
    rw [e] at h
    exact r.get h
theorem truV {v : V} {d : D} {k : Bool} {H : Hp} (e : Le W H) (r : DR K mg W v d) (h : truD d = some k) : TruV K v H k := by
  cases r with
  | non => cases h; rfl
  | bl b => cases h; rfl
  | int i => cases h; rfl
  | str x =>
    simp only [truD] at h
    split at h
    · cases h; exact ⟨by assumption, rfl⟩
    · cases h
  | tup s r => cases h; exact .inr (.inl ⟨_, st_le e s, by cases r <;> rfl⟩)
  | lst s r => cases h; exact .inl ⟨_, .inl (.inl (e _ _ s)), by cases r <;> rfl⟩
  | scr s =>
    rename_i a ns
    cases h; exact .inl ⟨_, sl_le e s, by cases ns <;> rfl⟩
  | ins _ _ _ => cases h
  | cls _ => cases h
  | dic _ _ => cases h
  | dit _ _ => cases h
mutual
theorem toDp {H : Hp} (e : Le W H) : ∀ {v : V} {d : D} {p : PyData}, DR K mg W v d → toPy d = some p → Dp K H v p
  | _, _, _, .non, h => by cases h; exact .non
  | _, _, _, .bl b, h => by cases h; exact .bl b
  | _, _, _, .int i, h => by cases h; exact .int i
  | _, _, _, .str x, h => by cases h; exact .str x
  | _, .tup ds, p, .tup s r, h => by
    simp only [toPy, Option.map_eq_some_iff] at h
    obtain ⟨ps, h, rfl⟩ := h
    exact .tup (st_le e s) (toDps e r h)
  | _, .lst ds, p, .lst s r, h => by
    simp only [toPy, Option.map_eq_some_iff] at h
    obtain ⟨ps, h, rfl⟩ := h
    exact .lst (.inl (.inl (e _ _ s))) (toDps e r h)
  | _, .scr ns, p, .scr s, h => by
    cases h
    refine .lst (sl_le e s) ?_
    clear s
    induction ns with
    | nil => exact .nil
    | cons n ns ih => exact .cons (.int n) ih
  | _, _, _, .ins _ _ _, h => by cases h
  | _, _, _, .cls _, h => by cases h
  | _, _, _, .dic _ _, h => by cases h
  | _, _, _, .dit _ _, h => by cases h
theorem toDps {H : Hp} (e : Le W H) : ∀ {vs : List V} {ds : List D} {ps : List PyData}, DRs K mg W vs ds → toPys ds = some ps → DpAll K H vs ps
  | _, _, _, .nil, h => by cases h; exact .nil
  | _, d :: ds, ps, .cons r s, h => by
    simp only [toPys, Option.bind_eq_some_iff, Option.map_eq_some_iff] at h
    obtain ⟨x, h1, xs, h2, rfl⟩ := h
    exact .cons (toDp e r h1) (toDps e s h2)
end
theorem fl_v {v : V} {d : D} {x : V} (r : DR K mg W v d) (h : flD d = some x) : v = x ∧ flatV x = true := by
  cases r <;> cases h <;> exact ⟨rfl, rfl⟩
theorem fl_vs : ∀ {vs : List V} {ds : List D} {xs : List V}, DRs K mg W vs ds → flDs ds = some xs → vs = xs ∧ xs.all flatV = true
  | _, _, _, .nil, h => by cases h; exact ⟨rfl, rfl⟩
  | _, d :: ds, xs, .cons r s, h => by
    simp only [flDs, Option.bind_eq_some_iff, Option.map_eq_some_iff] at h
    obtain ⟨x, h1, ys, h2, rfl⟩ := h
    obtain ⟨rfl, a⟩ := fl_v r h1
    obtain ⟨rfl, b⟩ := fl_vs s h2
    exact ⟨rfl, by rw [List.all_cons, a, b]; rfl⟩
end

section
variable {X : Cx}
/-- a rule or another -/
def orR (r r' : R2) : R2 := fun x y H Q => r x y H Q ∨ r' x y H Q
theorem op_or {f : Value → Value → Sem Value} {r r' : R2} (h : OpR X f r) (h' : OpR X f r') : OpR X f (orR r r') := fun p s σ H x y v u Q I rx ry q => q.elim (h p s σ H x y v u Q I rx ry) (h' p s σ H x y v u Q I rx ry)
def rAddD (K : PySem.W.Frag) : R2 := orR (rI0 fun i j => V.int (i + j)) (orR (fun x y H Q => ∃ i j, x = V.str i ∧ y = V.str j ∧ i.length + j.length ≤ sizeLine ∧ Q (V.str (i ++ j)) H) (rCatF K))
theorem op_addA : OpR X (binaryOp .Add) (rAddD X.K) := op_or op_add (op_or op_add_str op_catF)
variable {K : PySem.W.Frag} {mg : Str → Option Value}
theorem rd_add : R2D K mg (rAddD K) addD := by
  intro x y z vx vy sd σ H W st hx hy hf Q q
  unfold addD at hf
  split at hf
  · cases hx; cases hy; cases hf
    exact .inl ⟨_, _, rfl, rfl, q _ H W st Kp.refl (.int _)⟩
  · cases hx; cases hy
    split at hf
    · rename_i h
      cases hf
      exact .inr (.inl ⟨_, _, rfl, rfl, h, q _ H W st Kp.refl (.str _)⟩)
    · cases hf
  · split at hf
    · rename_i h
      cases hf
      cases hx with
      | tup sx rx =>
        cases hy with
        | tup sy ry =>
          have l1 := rx.len
          have l2 := ry.len
          refine .inr (.inr ⟨_, _, _, _, rfl, rfl, st_le st.le sx, st_le st.le sy, by rw [l1, l2]; exact h, fun e => ?_, fun _ e => ?_, fun _ e p ob hp ho => ?_⟩)
          · subst e; cases rx
            exact q _ H W st Kp.refl (.tup sy ry)
          · subst e; cases ry
            refine q _ H W st Kp.refl (.tup sx ?_)
            rw [List.append_nil]; exact rx
          · obtain ⟨g1, g2⟩ := st.newV hp (.frz ob (.tup _))
            exact q _ _ _ g1 g2 (.tup (.inl ⟨ob, upd_same, ho⟩) ((rx.app ry).le (Le.upd (st.free hp))))
    · cases hf
  · cases hf
theorem ro_cat : R2O K mg rCat catD := by
  intro x y z vx vy sd σ H W st hx hy hf Q q
  unfold catD at hf
  split at hf
  · split at hf
    · rename_i h
      cases hf
      cases hx with
      | lst sx rx =>
        cases hy with
        | lst sy ry =>
          have l1 := rx.len
          have l2 := ry.len
          refine ⟨_, _, _, _, rfl, rfl, st.le _ _ sx, st.le _ _ sy, by rw [l1, l2]; exact h, fun p hp => ?_⟩
          obtain ⟨g1, g2⟩ := st.newO hp (.lst _)
          exact q _ _ _ g1 g2 ⟨st.free hp, _, upd_same, rx.app ry⟩ hp
    · cases hf
  · cases hf
theorem rd_sub : R2D K mg (rI0 fun i j => V.int (i - j)) subD := R2D.of fun x y z vx vy H W le hx hy hf Q q => by
  unfold subD at hf
  split at hf <;> cases hf
  cases hx; cases hy
  exact ⟨_, _, rfl, rfl, q _ (.int _)⟩
theorem rd_int {C : Int → Int → Prop} [∀ i j, Decidable (C i j)] {g : Int → Int → Int} : R2D K mg (rI C fun i j => V.int (g i j)) (fun x y => match x, y with | .int a, .int b => if C a b then some (.int (g a b)) else none | _, _ => none) := R2D.of fun x y z vx vy H W le hx hy hf Q q => by
  split at hf
  · split at hf <;> cases hf
    cases hx; cases hy
    exact ⟨_, _, rfl, rfl, by assumption, q _ (.int _)⟩
  · cases hf
theorem rd_mul : R2D K mg (rI CMul fun i j => V.int (i * j)) mulD := rd_int
theorem rd_div : R2D K mg (rI CDivN fun i j => V.int (i.fdiv j)) divD := rd_int
theorem rd_mod : R2D K mg (rI (fun _ j => j ≠ 0) fun i j => V.int (i.fmod j)) modD := rd_int
theorem rd_pow : R2D K mg (rI CPow fun i j => V.int (i ^ j.toNat)) powD := rd_int
theorem rd_cmp {p : Int → Int → Bool} : R2D K mg (rI0 fun i j => V.bl (p i j)) (cmpD p) := R2D.of fun x y z vx vy H W le hx hy hf Q q => by
  unfold cmpD at hf
  split at hf <;> cases hf
  cases hx; cases hy
  exact ⟨_, _, rfl, rfl, q _ (.bl _)⟩
theorem rd_at : R2D K mg (rIx K) atD := R2D.of fun x y z vx vy H W le hx hy hf Q q => by
  unfold atD at hf
  split at hf
  · cases hy
    cases hx with
    | lst s r =>
      obtain ⟨v, e, rv⟩ := at_rs r hf
      exact .inl ⟨_, _, _, v, rfl, rfl, .inl (.inl (le _ _ s)), e, q v rv⟩
  · cases hy
    cases hx with
    | tup s r =>
      obtain ⟨v, e, rv⟩ := at_rs r hf
      exact .inr (.inl ⟨_, _, _, v, rfl, rfl, st_le le s, e, q v rv⟩)
  · cases hy
    cases hx with
    | scr s =>
      rename_i ns i a
      simp only [Option.map_eq_some_iff] at hf
      obtain ⟨n, hf, rfl⟩ := hf
      refine .inl ⟨_, _, _, .int n, rfl, rfl, sl_le le s, ?_, q _ (.int n)⟩
      unfold atI at hf ⊢
      rw [List.length_map]
      cases e : ixN ns.length i with
      | none => rw [e] at hf; cases hf
      | some j =>
        rw [e] at hf
        have hf : ns[j]? = some n := hf
        show (ns.map V.int)[j]? = some (V.int n)
        rw [List.getElem?_map, hf]; rfl
  · cases hy
    cases hx
    split at hf
    · simp only [Option.map_eq_some_iff] at hf
      obtain ⟨c, hf, rfl⟩ := hf
      exact .inr (.inr ⟨_, _, c, rfl, rfl, by assumption, hf, q _ (.str _)⟩)
    · cases hf
  · cases hf
theorem rd_eq : R2D K mg (rEqD K) (eqD false) := R2D.of fun x y z vx vy H W le hx hy hf Q q => by
  simp only [eqD, Option.bind_eq_some_iff] at hf
  obtain ⟨a, ha, b, hb, hf⟩ := hf
  split at hf
  · rename_i h
    cases hf
    rw [Bool.false_xor] at q
    exact ⟨a, b, toDp le hx ha, toDp le hy hb, h.1, h.2, q _ (.bl _)⟩
  · cases hf
theorem rd_ne : R2D K mg (rNeD K) (eqD true) := R2D.of fun x y z vx vy H W le hx hy hf Q q => by
  simp only [eqD, Option.bind_eq_some_iff] at hf
  obtain ⟨a, ha, b, hb, hf⟩ := hf
  split at hf
  · rename_i h
    cases hf
    rw [Bool.true_xor] at q
    exact ⟨a, b, toDp le hx ha, toDp le hy hb, h.1, h.2, q _ (.bl _)⟩
  · cases hf
def rInD (K : PySem.W.Frag) : R2 := orR (rIn K false) fun x y H Q => ∃ i j, x = V.str i ∧ y = V.str j ∧ Q (V.bl !(Builtin.Str.occurrences j i 0 j.length 1).isEmpty) H
theorem op_inA : OpR X (compareOp .In) (rInD X.K) := op_or op_in_seq op_in_str
theorem rd_in : R2D K mg (rInD K) (inD false) := R2D.of fun x y z vx vy H W le hx hy hf Q q => by
  unfold inD at hf
  split at hf
  · simp only [Option.bind_eq_some_iff, Option.map_eq_some_iff] at hf
    obtain ⟨a, ha, bs, hb, rfl⟩ := hf
    cases hy with
    | lst s r =>
      obtain ⟨rfl, h1⟩ := fl_v hx ha
      obtain ⟨rfl, h2⟩ := fl_vs r hb
      exact .inl ⟨_, _, rfl, .inl (.inl (.inl (le _ _ s))), h1, h2, by simpa using q _ (.bl _)⟩
  · simp only [Option.bind_eq_some_iff, Option.map_eq_some_iff] at hf
    obtain ⟨a, ha, bs, hb, rfl⟩ := hf
    cases hy with
    | tup s r =>
      obtain ⟨rfl, h1⟩ := fl_v hx ha
      obtain ⟨rfl, h2⟩ := fl_vs r hb
      exact .inl ⟨_, _, rfl, .inr (st_le le s), h1, h2, by simpa using q _ (.bl _)⟩
  · split at hf
    · cases hf
      cases hx; cases hy
      exact .inr ⟨_, _, rfl, rfl, q _ (.bl _)⟩
    · cases hf
  · cases hf
theorem rd_nin : R2D K mg (rIn K true) (fun x y => match y with | .str _ => none | _ => inD true x y) := R2D.of fun x y z vx vy H W le hx hy hf Q q => by
  split at hf
  · cases hf
  · unfold inD at hf
    split at hf
    · simp only [Option.bind_eq_some_iff, Option.map_eq_some_iff] at hf
      obtain ⟨a, ha, bs, hb, rfl⟩ := hf
      cases hy with
      | lst s r =>
        obtain ⟨rfl, h1⟩ := fl_v hx ha
        obtain ⟨rfl, h2⟩ := fl_vs r hb
        exact ⟨_, _, rfl, .inl (.inl (.inl (le _ _ s))), h1, h2, by simpa using q _ (.bl _)⟩
    · simp only [Option.bind_eq_some_iff, Option.map_eq_some_iff] at hf
      obtain ⟨a, ha, bs, hb, rfl⟩ := hf
      cases hy with
      | tup s r =>
        obtain ⟨rfl, h1⟩ := fl_v hx ha
        obtain ⟨rfl, h2⟩ := fl_vs r hb
        exact ⟨_, _, rfl, .inr (st_le le s), h1, h2, by simpa using q _ (.bl _)⟩
    · split at hf
      · cases hf
      · cases hf
    · cases hf
def rIsN (neg : Bool) : R2 := fun x y H Q => y = V.non ∧ Q (V.bl (neg ^^ decide (x = V.non))) H
theorem op_isNA : OpR X (compareOp .Is) (rIsN false) := fun p s σ H x y v u Q I rx ry q => op_isN p s σ H x y v u Q I rx ry ⟨q.1, by simpa using q.2⟩
theorem op_notNA : OpR X (compareOp .IsNot) (rIsN true) := fun p s σ H x y v u Q I rx ry q => op_notN p s σ H x y v u Q I rx ry ⟨q.1, by simpa using q.2⟩
theorem rd_isN {neg : Bool} : R2D K mg (rIsN neg) (isND neg) := R2D.of fun x y z vx vy H W le hx hy hf Q q => by
  unfold isND at hf
  split at hf
  · cases hf; cases hx; cases hy
    exact ⟨rfl, by simpa using q _ (.bl _)⟩
  · cases hf; cases hy
    refine ⟨rfl, ?_⟩
    have : decide (vx = V.non) = false := by
      rename_i h
      cases hx <;> first | exact absurd rfl h | rfl
    rw [this, Bool.xor_false]
    exact q _ (.bl _)
  · cases hf
end
end Fli
set_option Elab.async false
set_option linter.all false
set_option maxRecDepth 100000
set_option maxHeartbeats 4000000
namespace Fli
open PySem L2
variable [HW]

section
variable {X : Cx} {e a b c : Expr} {es : List Expr} {pos : Pos}
/-! truth, tests, choice -/
theorem b_tru {m : M D} (h : DE X e m) (he : ∀ whole, isTrue e X.env whole = (do let v ← whole; standAt e.pos; holding [v] (truthy v)) := by intro _; rfl) : BT X e (bindM m fun d => optM (truD d)) := PT.imp (pt_truth h he) fun σ H Q ⟨sd, W, k, sd', st, em, q⟩ => by
  obtain ⟨d, s1, e1, em⟩ := bindM_some em
  obtain ⟨e2, rfl⟩ := optM_some em
  exact ⟨sd, W, d, sd', st, e1, fun v H1 W1 st1 k1 r => ⟨k, truV st1.le r e2, q H1 W1 st1 k1⟩⟩
theorem b_not {m : M Bool} (h : BT X e m) : BT X (.UnaryOp .Not e pos) (bindM m fun k => retM !k) := PT.imp (pt_not h) fun σ H Q ⟨sd, W, k, sd', st, em, q⟩ => by
  obtain ⟨d, s1, e1, em⟩ := bindM_some em
  cases em
  exact ⟨sd, W, d, sd', st, e1, q⟩
def andB (a b : M Bool) : M Bool := bindM a fun k => match k with | true => b | false => retM false
def orB (a b : M Bool) : M Bool := bindM a fun k => match k with | true => retM true | false => b
theorem bw_1 {op : BoolOp} {m : M Bool} (h : BT X e m) : BW X (.BoolOp .And [e] pos) m := pw_and1 h
theorem bw_o1 {m : M Bool} (h : BT X e m) : BW X (.BoolOp .Or [e] pos) m := pw_or1 h
theorem bw_a1 {m : M Bool} (h : BT X e m) : BW X (.BoolOp .And [e] pos) m := pw_and1 h
theorem bw_and {ma mb : M Bool} {rest : List Expr} (ha : BT X a ma) (hb : BW X (.BoolOp .And (b :: rest) pos) mb) : BW X (.BoolOp .And (a :: b :: rest) pos) (andB ma mb) := PW.imp (pw_and ha hb) fun σ H Q ⟨sd, W, k, sd', st, em, q⟩ => by
  obtain ⟨x, s1, e1, em⟩ := bindM_some em
  refine ⟨sd, W, x, s1, st, e1, fun H1 W1 st1 k1 => ?_⟩
  cases x with
  | true => rw [if_pos rfl]; exact ⟨s1, W1, k, sd', st1, em, fun H2 W2 st2 k2 => q H2 W2 st2 (k1.trans k2)⟩
  | false => cases em; rw [if_neg (by simp)]; exact q H1 W1 st1 k1
theorem bw_or {ma mb : M Bool} {rest : List Expr} (ha : BT X a ma) (hb : BW X (.BoolOp .Or (b :: rest) pos) mb) : BW X (.BoolOp .Or (a :: b :: rest) pos) (orB ma mb) := PW.imp (pw_or ha hb) fun σ H Q ⟨sd, W, k, sd', st, em, q⟩ => by
  obtain ⟨x, s1, e1, em⟩ := bindM_some em
  refine ⟨sd, W, x, s1, st, e1, fun H1 W1 st1 k1 => ?_⟩
  cases x with
  | false => rw [if_neg (by simp)]; exact ⟨s1, W1, k, sd', st1, em, fun H2 W2 st2 k2 => q H2 W2 st2 (k1.trans k2)⟩
  | true => cases em; rw [if_pos rfl]; exact q H1 W1 st1 k1
theorem b_w {m : M Bool} (h : BW X e m) : BT X e m := h.pt
/-- not, and, or as values -/
theorem e_not {m : M D} (h : DE X e m) : DE X (.UnaryOp .Not e pos) (bindM m fun d => optM (notD d)) := PE.imp (pe_notT h) fun σ H Q ⟨sd, W, k, sd', st, em, q⟩ => by
  obtain ⟨d, s1, e1, em⟩ := bindM_some em
  obtain ⟨e2, rfl⟩ := optM_some em
  simp only [notD, Option.map_eq_some_iff] at e2
  obtain ⟨t, e2, rfl⟩ := e2
  exact ⟨sd, W, d, sd', st, e1, fun v H1 W1 st1 k1 r => ⟨t, truV st1.le r e2, q _ H1 W1 st1 k1 (.bl _)⟩⟩
def andV (a b : M D) : M D := bindM a fun x => bindM (optM (truD x)) fun k => match k with | true => b | false => retM x
def orV (a b : M D) : M D := bindM a fun x => bindM (optM (truD x)) fun k => match k with | true => retM x | false => b
theorem e_1 {op : BoolOp} {m : M D} (h : DE X e m) : DE X (.BoolOp op [e] pos) m := pe_one h
theorem e_and {ma mb : M D} {rest : List Expr} (ha : DE X a ma) (hb : DE X (.BoolOp .And (b :: rest) pos) mb) : DE X (.BoolOp .And (a :: b :: rest) pos) (andV ma mb) := PE.imp (pe_andT ha hb) fun σ H Q ⟨sd, W, z, sd', st, em, q⟩ => by
  obtain ⟨x, s1, e1, em⟩ := bindM_some em
  obtain ⟨k, s2, e2, em⟩ := bindM_some em
  obtain ⟨h2, rfl⟩ := optM_some e2
  refine ⟨sd, W, x, s2, st, e1, fun v H1 W1 st1 k1 r => ⟨k, truV st1.le r h2, ?_⟩⟩
  cases k with
  | true => rw [if_pos rfl]; exact ⟨s2, W1, z, sd', st1, em, fun v H2 W2 st2 k2 r2 => q v H2 W2 st2 (k1.trans k2) r2⟩
  | false => cases em; rw [if_neg (by simp)]; exact q v H1 W1 st1 k1 r
theorem e_or {ma mb : M D} {rest : List Expr} (ha : DE X a ma) (hb : DE X (.BoolOp .Or (b :: rest) pos) mb) : DE X (.BoolOp .Or (a :: b :: rest) pos) (orV ma mb) := PE.imp (pe_orT ha hb) fun σ H Q ⟨sd, W, z, sd', st, em, q⟩ => by
  obtain ⟨x, s1, e1, em⟩ := bindM_some em
  obtain ⟨k, s2, e2, em⟩ := bindM_some em
  obtain ⟨h2, rfl⟩ := optM_some e2
  refine ⟨sd, W, x, s2, st, e1, fun v H1 W1 st1 k1 r => ⟨k, truV st1.le r h2, ?_⟩⟩
  cases k with
  | false => rw [if_neg (by simp)]; exact ⟨s2, W1, z, sd', st1, em, fun v H2 W2 st2 k2 r2 => q v H2 W2 st2 (k1.trans k2) r2⟩
  | true => cases em; rw [if_pos rfl]; exact q v H1 W1 st1 k1 r
def ifM {α : Type} (c : M Bool) (a b : M α) : M α := bindM c fun k => match k with | true => a | false => b
theorem e_if {mc : M Bool} {ma mb : M D} (hc : BT X c mc) (ha : DE X a ma) (hb : DE X b mb) : DE X (.IfExp c a b pos) (ifM mc ma mb) := PE.imp (pe_ifExp hc ha hb) fun σ H Q ⟨sd, W, z, sd', st, em, q⟩ => by
  obtain ⟨k, s1, e1, em⟩ := bindM_some em
  refine ⟨sd, W, k, s1, st, e1, fun H1 W1 st1 k1 => ?_⟩
  cases k with
  | true => rw [if_pos rfl]; exact ⟨s1, W1, z, sd', st1, em, fun v H2 W2 st2 k2 r2 => q v H2 W2 st2 (k1.trans k2) r2⟩
  | false => rw [if_neg (by simp)]; exact ⟨s1, W1, z, sd', st1, em, fun v H2 W2 st2 k2 r2 => q v H2 W2 st2 (k1.trans k2) r2⟩
/-- a chain of two comparisons -/
def chM (f g : D → D → Option D) (a b c : M D) : M D := bindM a fun x => bindM b fun y => bindM (optM (f x y)) fun k => match k with | .bl true => bindM c fun z => optM (g y z) | .bl false => retM (.bl false) | _ => fun _ => none
theorem t_chain {K : PySem.W.Frag} {mg : Str → Option Value} {r r' : R2} {f g : D → D → Option D} {ma mb mc : M D} (hr : R2D K mg r f) (hr' : R2D K mg r' g) {σ : L2.St} {H : Hp} {Q : VK} (h : tD K mg (chM f g ma mb mc) σ H Q) : tChain r r' (tD K mg ma) (tD K mg mb) (tD K mg mc) σ H Q := by
  obtain ⟨sd, W, d, sd', st, em, q⟩ := h
  obtain ⟨x, s1, e1, em⟩ := bindM_some em
  obtain ⟨y, s2, e2, em⟩ := bindM_some em
  obtain ⟨k, s3, e3, em⟩ := bindM_some em
  obtain ⟨h3, rfl⟩ := optM_some e3
  refine ⟨sd, W, x, s1, st, e1, fun v H1 W1 st1 k1 r1 => ⟨s1, W1, y, s3, st1, e2, fun u H2 W2 st2 k2 r2 => ?_⟩⟩
  refine hr x y k v u s3 σ H2 W2 st2 (r1.le k2.le) r2 h3 _ fun w H3 W3 st3 k3 r3 => ?_
  cases k with
  | bl t =>
    cases r3
    refine ⟨t, rfl, ?_⟩
    cases t with
    | true =>
      obtain ⟨z, s4, e4, em⟩ := bindM_some em
      obtain ⟨e5, rfl⟩ := optM_some em
      rw [if_pos rfl]
      exact ⟨s3, W3, z, sd', st3, e4, fun w H4 W4 st4 k4 r4 => hr' y z d u w sd' σ H4 W4 st4 ((r2.le k3.le).le k4.le) r4 e5 Q fun p H5 W5 st5 k5 r5 => q p H5 W5 st5 ((((k1.trans k2).trans k3).trans k4).trans k5) r5⟩
    | false => cases em; rw [if_neg (by simp)]; exact q _ H3 W3 st3 ((k1.trans k2).trans k3) (.bl _)
  | _ => cases em
theorem e_chain {op op' : CmpOp} {r r' : R2} {f g : D → D → Option D} {ma mb mc : M D} (ho : OpR X (compareOp op) r) (ho' : OpR X (compareOp op') r') (hr : R2D X.K X.mg r f) (hr' : R2D X.K X.mg r' g) (ha : DE X a ma) (hb : DE X b mb) (hc : DE X c mc)
    (hm : lastMarks [op, op'] [b, c] = false := by rfl) : DE X (.Compare a [op, op'] [b, c] pos) (chM f g ma mb mc) := PE.imp (pe_chain ho ho' ha hb hc hm) fun _ _ _ h => t_chain hr hr' h
/-! subscripts -/
theorem e_ix {ma mb : M D} (ha : DE X a ma) (hb : DE X b mb) (hs : PlainIx b := by exact fun _ _ => rfl) : DE X (.Subscript a b pos) (mBin atD ma mb) := PE.imp (pe_ix ix_seq ha hb hs) fun _ _ _ h => t_bin rd_at h
/-! displays, arguments -/
theorem la_nil : LA X [] (retM []) := PA.imp pa_nil fun σ H Q ⟨sd, W, d, sd', st, em, q⟩ => by
  cases em
  exact q _ H W st Kp.refl .nil
theorem la_cons {m : M D} {ms : M (List D)} (h : DE X e m) (hs : LA X es ms) (he : starEach (e :: es) X.env = (false, eval e X.env) :: starEach es X.env := by rfl) : LA X (e :: es) (bindM m fun d => bindM ms fun ds => retM (d :: ds)) := PA.imp (pa_cons h hs he) fun σ H Q ⟨sd, W, d, sd', st, em, q⟩ => by
  obtain ⟨x, s1, e1, em⟩ := bindM_some em
  obtain ⟨xs, s2, e2, em⟩ := bindM_some em
  cases em
  exact ⟨sd, W, x, s1, st, e1, fun v H1 W1 st1 k1 r1 => ⟨s1, W1, xs, sd', st1, e2, fun vs H2 W2 st2 k2 r2 => q _ H2 W2 st2 (k1.trans k2) (.cons (r1.le k2.le) r2)⟩⟩
def tupM (ds : List D) : Option D := if ds.length ≤ sizeLine then some (.tup ds) else none
def lstM (ds : List D) : Option O := if ds.length ≤ sizeLine then some (.lst ds) else none
theorem e_tup {ms : M (List D)} {k : Nat} (hs : LA X es ms) : DE X (.Tuple es k pos) (bindM ms fun ds => optM (tupM ds)) := PE.imp (pe_tupF hs) fun σ H Q ⟨sd, W, d, sd', st, em, q⟩ => by
  obtain ⟨xs, s1, e1, em⟩ := bindM_some em
  obtain ⟨e2, rfl⟩ := optM_some em
  unfold tupM at e2
  split at e2 <;> cases e2
  refine ⟨sd, W, xs, sd', st, e1, fun vs H1 W1 st1 k1 r1 => ⟨by rw [r1.len]; assumption, fun p ob hp ho => ?_⟩⟩
  obtain ⟨g1, g2⟩ := st1.newV hp (.frz ob (.tup vs))
  exact q _ _ _ g1 (k1.trans g2) (.tup (.inl ⟨ob, upd_same, ho⟩) (r1.le (Le.upd (st1.free hp))))
theorem o_lst {ms : M (List D)} (hs : LA X es ms) : OE X (.List es pos) (bindM ms fun ds => optM (lstM ds)) := PE.imp (pe_lst hs) fun σ H Q ⟨sd, W, d, sd', st, em, q⟩ => by
  obtain ⟨xs, s1, e1, em⟩ := bindM_some em
  obtain ⟨e2, rfl⟩ := optM_some em
  unfold lstM at e2
  split at e2 <;> cases e2
  refine ⟨sd, W, xs, sd', st, e1, fun vs H1 W1 st1 k1 r1 => ⟨by rw [r1.len]; assumption, fun p hp => ?_⟩⟩
  obtain ⟨g1, g2⟩ := st1.newO hp (.lst vs)
  exact q _ _ _ g1 (k1.trans g2) ⟨st1.free hp, vs, upd_same, r1⟩ (st1.notOwn hp) (k1.fresh hp)
/-! slices -/
theorem ip_none : IP X none (retM none) := PO.imp po_none fun σ H Q ⟨sd, W, d, sd', st, em, q⟩ => by
  cases em
  exact q H W st Kp.refl
def intD : D → Option Int
  | .int i => some i
  | _ => none
theorem ip_some {m : M D} (h : DE X e m) : IP X (some e) (bindM m fun d => optM ((intD d).map some)) := PO.imp (po_some h) fun σ H Q ⟨sd, W, d, sd', st, em, q⟩ => by
  obtain ⟨x, s1, e1, em⟩ := bindM_some em
  obtain ⟨e2, rfl⟩ := optM_some em
  refine ⟨sd, W, x, sd', st, e1, fun v H1 W1 st1 k1 r => ?_⟩
  cases x <;> cases e2
  cases r
  exact ⟨_, rfl, q H1 W1 st1 k1⟩
def cutD {α : Type} (xs : List α) (lo hi : Option Int) : List α := (xs.drop (HT.sIx xs.length 0 lo)).take (HT.sIx xs.length xs.length hi - HT.sIx xs.length 0 lo)
def slO (x : D) (lo hi : Option Int) : Option O := match x with
  | .lst ds => some (.lst (cutD ds lo hi))
  | .scr ns => some (.lst ((cutD ns lo hi).map .int))
  | _ => none
def slD (x : D) (lo hi : Option Int) : Option D := match x with
  | .tup ds => some (.tup (cutD ds lo hi))
  | _ => none
def slS (x : D) (lo hi : Option Int) : Option D := match x with
  | .str z => if z.length ≤ sizeLine then some (.str (cutS z lo hi)) else none
  | _ => none
section
variable {K : PySem.W.Frag} {mg : Str → Option Value}
theorem cut_rs {W : Hp} {vs : List V} {ds : List D} (r : DRs K mg W vs ds) {lo hi : Option Int} : DRs K mg W (cutV vs lo hi) (cutD ds lo hi) := by
  unfold cutV cutD
  rw [r.len]
  exact (r.drop _).take _
theorem ints_rs {W : Hp} : ∀ {ns : List Int}, DRs K mg W (ns.map V.int) (ns.map D.int)
  | [] => .nil
  | _ :: _ => .cons (.int _) ints_rs
end
def slM {α : Type} (f : D → Option Int → Option Int → Option α) (a : M D) (l h : M (Option Int)) : M α := bindM a fun x => bindM l fun lo => bindM h fun hi => optM (f x lo hi)
theorem o_sl {ma : M D} {ml mh : M (Option Int)} {lo hi : Option Expr} {p2 : Pos} (ha : DE X a ma) (hl : IP X lo ml) (hh : IP X hi mh) : OE X (.Subscript a (.Slice lo hi none p2) pos) (slM slO ma ml mh) := PE.imp (pe_slice sl_list ha hl hh) fun σ H Q ⟨sd, W, d, sd', st, em, q⟩ => by
  obtain ⟨x, s1, e1, em⟩ := bindM_some em
  obtain ⟨l, s2, e2, em⟩ := bindM_some em
  obtain ⟨u, s3, e3, em⟩ := bindM_some em
  obtain ⟨e4, rfl⟩ := optM_some em
  refine ⟨sd, W, x, s1, st, e1, fun v H1 W1 st1 k1 r1 => ⟨s1, W1, l, s2, st1, e2, fun H2 W2 st2 k2 => ⟨s2, W2, u, sd', st2, e3, fun H3 W3 st3 k3 => ?_⟩⟩⟩
  have r3 := (r1.le k2.le).le k3.le
  have go : ∀ {vs : List V} {ds : List D} {p : Addr}, H3 p = none → DRs X.K X.mg W3 vs ds → d = .lst ds → Q (.ref p) (upd H3 p (.lst vs)) := fun hp r ed => by
    obtain ⟨g1, g2⟩ := st3.newO hp (.lst _)
    exact q _ _ _ g1 (((k1.trans k2).trans k3).trans g2) ⟨st3.free hp, by rw [ed]; exact ⟨_, upd_same, r⟩⟩ (st3.notOwn hp) (((k1.trans k2).trans k3).fresh hp)
  cases r3 with
  | lst s r =>
    cases e4
    exact ⟨_, _, rfl, .inl (.inl (st3.le _ _ s)), fun p hp => go hp (cut_rs r) rfl⟩
  | @scr _ ns s =>
    cases e4
    refine ⟨_, _, rfl, sl_le st3.le s, fun p hp => go hp ?_ rfl⟩
    have : cutV (ns.map V.int) l u = (cutD ns l u).map V.int := by
      unfold cutV cutD
      rw [List.length_map, List.map_take, List.map_drop]
    rw [this]
    exact ints_rs
  | _ => cases e4
theorem e_sl {ma : M D} {ml mh : M (Option Int)} {lo hi : Option Expr} {p2 : Pos} (ha : DE X a ma) (hl : IP X lo ml) (hh : IP X hi mh) : DE X (.Subscript a (.Slice lo hi none p2) pos) (slM slD ma ml mh) := PE.imp (pe_slice sl_tupF ha hl hh) fun σ H Q ⟨sd, W, d, sd', st, em, q⟩ => by
  obtain ⟨x, s1, e1, em⟩ := bindM_some em
  obtain ⟨l, s2, e2, em⟩ := bindM_some em
  obtain ⟨u, s3, e3, em⟩ := bindM_some em
  obtain ⟨e4, rfl⟩ := optM_some em
  refine ⟨sd, W, x, s1, st, e1, fun v H1 W1 st1 k1 r1 => ⟨s1, W1, l, s2, st1, e2, fun H2 W2 st2 k2 => ⟨s2, W2, u, sd', st2, e3, fun H3 W3 st3 k3 => ?_⟩⟩⟩
  have r3 := (r1.le k2.le).le k3.le
  cases r3 with
  | @tup _ _ ds s r =>
    cases e4
    refine ⟨_, _, rfl, st_le st3.le s, fun z => ?_, fun _ p ob hp ho => ?_⟩
    · refine q _ H3 W3 st3 ((k1.trans k2).trans k3) (.tup s ?_)
      have : cutD ds l u = ds := by
        unfold cutD
        rw [r.len] at z
        rw [z.1, z.2]; simp
      rw [this]; exact r
    · obtain ⟨g1, g2⟩ := st3.newV hp (.frz ob (.tup _))
      exact q _ _ _ g1 (((k1.trans k2).trans k3).trans g2) (.tup (.inl ⟨ob, upd_same, ho⟩) ((cut_rs r).le (Le.upd (st3.free hp))))
  | _ => cases e4
theorem e_slS {ma : M D} {ml mh : M (Option Int)} {lo hi : Option Expr} {p2 : Pos} (ha : DE X a ma) (hl : IP X lo ml) (hh : IP X hi mh) : DE X (.Subscript a (.Slice lo hi none p2) pos) (slM slS ma ml mh) := PE.imp (pe_slice sl_str ha hl hh) fun σ H Q ⟨sd, W, d, sd', st, em, q⟩ => by
  obtain ⟨x, s1, e1, em⟩ := bindM_some em
  obtain ⟨l, s2, e2, em⟩ := bindM_some em
  obtain ⟨u, s3, e3, em⟩ := bindM_some em
  obtain ⟨e4, rfl⟩ := optM_some em
  refine ⟨sd, W, x, s1, st, e1, fun v H1 W1 st1 k1 r1 => ⟨s1, W1, l, s2, st1, e2, fun H2 W2 st2 k2 => ⟨s2, W2, u, sd', st2, e3, fun H3 W3 st3 k3 => ?_⟩⟩⟩
  have r3 := (r1.le k2.le).le k3.le
  unfold slS at e4
  split at e4
  · split at e4 <;> cases e4
    cases r3
    exact ⟨_, rfl, by assumption, q _ H3 W3 st3 ((k1.trans k2).trans k3) (.str _)⟩
  · cases e4
end
end Fli
set_option Elab.async false
set_option linter.all false
set_option maxRecDepth 100000
set_option maxHeartbeats 4000000
namespace Fli
open PySem L2
variable [HW]

theorem bindO_some {α β : Type} {o : Option α} {f : α → M β} {s s' : S} {b : β} (h : bindM (optM o) f s = some (b, s')) : ∃ a, o = some a ∧ f a s = some (b, s') := by
  obtain ⟨a, s1, e1, h⟩ := bindM_some h
  obtain ⟨e2, z⟩ := optM_some e1
  rw [z] at h
  exact ⟨a, e2, h⟩
/-! slots that hold an object of their own: read in passing -/
def mLs (i : Nat) : M (List D) := fun s => match s[i]? with
  | some (some (.own (.lst ds))) => some (ds, s)
  | some (some (.d (.lst ds))) => some (ds, s)
  | _ => none
section
variable {K : PySem.W.Frag} {mg : Str → Option Value} {sd s' : S} {σ : L2.St} {H H' W W' : Hp}
theorem mLs_at {i : Nat} {ds : List D} (st : St K mg sd σ H W) (h : mLs i sd = some (ds, s')) : s' = sd ∧ ∃ a vs, σ[i]? = some (some (.ref a)) ∧ H a = some (.lst vs) ∧ DRs K mg W vs ds := by
  unfold mLs at h
  split at h
  · rename_i ds' e
    cases h
    obtain ⟨a, e1, w, vs, e2, r⟩ := st.own i _ e
    exact ⟨rfl, a, vs, e1, e2, r⟩
  · rename_i ds' e
    cases h
    obtain ⟨v, e1, r⟩ := st.dat i _ e
    cases r with
    | lst s r => exact ⟨rfl, _, _, e1, st.le _ _ s, r⟩
  · cases h
/-- a slot's own list is changed -/
def mOwn (i : Nat) : M (List D) := fun s => match s[i]? with
  | some (some (.own (.lst ds))) => some (ds, s)
  | _ => none
def mPut (i : Nat) (ds : List D) : M Unit := fun s => some ((), s.set i (some (.own (.lst ds))))
theorem mOwn_at {i : Nat} {ds : List D} (st : St K mg sd σ H W) (h : mOwn i sd = some (ds, s')) : s' = sd ∧ sd[i]? = some (some (.own (.lst ds))) ∧ ∃ a vs, σ[i]? = some (some (.ref a)) ∧ W a = none ∧ H a = some (.lst vs) ∧ DRs K mg W vs ds := by
  unfold mOwn at h
  split at h
  · rename_i ds' e
    cases h
    obtain ⟨a, e1, w, vs, e2, r⟩ := st.own i _ e
    exact ⟨rfl, e, a, vs, e1, w, e2, r⟩
  · cases h
theorem St.put {i : Nat} {a : Addr} {o : O} {ho : HO} (st : St K mg sd σ H W) (e : sd[i]? = some (some (.own o))) (ea : σ[i]? = some (some (.ref a))) (w : W a = none) {o' : O} (r : OR K mg (upd H a ho) W a o') :
    St K mg (sd.set i (some (.own o'))) σ (upd H a ho) W ∧ Kp sd σ H W (sd.set i (some (.own o'))) σ (upd H a ho) W := by
  have hi : i < sd.length := (List.getElem?_eq_some_iff.mp e).1
  have ow : Own sd σ a := ⟨i, o, e, ea⟩
  have back : ∀ (j : Nat) (u : O), (sd.set i (some (A.own o')))[j]? = some (some (A.own u)) → ∃ u', sd[j]? = some (some (A.own u')) := fun j u h => by
    by_cases z : i = j
    · subst z; exact ⟨o, e⟩
    · rw [List.getElem?_set_ne z] at h; exact ⟨u, h⟩
  refine ⟨⟨fun x y z => ?_, by rw [List.length_set]; exact st.len, fun j d h => ?_, fun j u h => ?_, fun j k u u' x h1 h2 => ?_⟩, ⟨Le.refl _, fun x u h n => ?_, fun x h _ _ => h, fun x ⟨j, u, h1, h2⟩ => ?_, fun x h => ?_⟩⟩
  · have ne : x ≠ a := ne_of_none z w
    rw [upd_ne ne]; exact st.le x y z
  · have ne : i ≠ j := fun z => by subst z; rw [List.getElem?_set_self hi] at h; cases h
    rw [List.getElem?_set_ne ne] at h
    exact st.dat j d h
  · by_cases z : i = j
    · subst z
      rw [List.getElem?_set_self hi] at h; cases h
      exact ⟨a, ea, r⟩
    · rw [List.getElem?_set_ne z] at h
      obtain ⟨x, e1, w1, r1⟩ := st.own j u h
      have ne : x ≠ a := fun q => z (st.inj i j o u a e h ea (q ▸ e1))
      refine ⟨x, e1, w1, ?_⟩
      rw [upd_ne ne]; exact r1
  · obtain ⟨v, h1⟩ := back j u h1
    obtain ⟨v', h2⟩ := back k u' h2
    exact st.inj j k v v' x h1 h2
  · have ne : x ≠ a := fun z => n (z ▸ ow)
    rw [upd_ne ne]; exact h
  · obtain ⟨v, h1⟩ := back j u h1
    exact .inl ⟨j, v, h1, h2⟩
  · by_cases z : x = a
    · subst z; rw [upd_same]; simp
    · rw [upd_ne z]; exact h
end

/-! built-in functions -/
def C1D (K : PySem.W.Frag) (mg : Str → Option Value) (r : List V → Hp → VK → Prop) (f : List D → Option D) : Prop :=
  ∀ xs z vs sd σ H W, St K mg sd σ H W → DRs K mg W vs xs → f xs = some z → ∀ Q : VK, (∀ v H' W', St K mg sd σ H' W' → Kp sd σ H W sd σ H' W' → DR K mg W' v z → Q v H') → r vs H Q
def C1O (K : PySem.W.Frag) (mg : Str → Option Value) (r : List V → Hp → VK → Prop) (f : List D → Option O) : Prop :=
  ∀ xs z vs sd σ H W, St K mg sd σ H W → DRs K mg W vs xs → f xs = some z → ∀ Q : VK, (∀ p H' W', St K mg sd σ H' W' → Kp sd σ H W sd σ H' W' → OR K mg H' W' p z → H p = none → Q (.ref p) H') → r vs H Q
def lenD : List D → Option D
  | [.lst ds] => some (.int ds.length)
  | [.tup ds] => some (.int ds.length)
  | [.scr ns] => some (.int ns.length)
  | [.str z] => if z.length ≤ sizeLine then some (.int z.length) else none
  | _ => none
def absD : List D → Option D
  | [.int i] => some (.int (if i < 0 then -i else i))
  | _ => none
def intcD : List D → Option D
  | [.int i] => some (.int i)
  | [.bl b] => some (.int (if b = true then 1 else 0))
  | _ => none
def maxD : List D → Option D
  | [.int i, .int j] => some (.int (if j > i then j else i))
  | _ => none
def minD : List D → Option D
  | [.int i, .int j] => some (.int (if j < i then j else i))
  | _ => none
def tupcD : List D → Option D
  | [.lst ds] => some (.tup ds)
  | [.tup ds] => some (.tup ds)
  | _ => none
def lstcD : List D → Option O
  | [.lst ds] => some (.lst ds)
  | [.tup ds] => some (.lst ds)
  | [.scr ns] => some (.lst (ns.map .int))
  | _ => none
def blsD : List D → Option (List Bool)
  | [] => some []
  | .bl b :: ds => (blsD ds).map (b :: ·)
  | _ => none
def allD : List D → Option D
  | [.lst ds] => (blsD ds).map fun bs => .bl (bs.all id)
  | _ => none
section
variable {K : PySem.W.Frag} {mg : Str → Option Value}
theorem C1D.of {r : List V → Hp → VK → Prop} {f : List D → Option D} (h : ∀ xs z vs H W, Le W H → DRs K mg W vs xs → f xs = some z → ∀ Q : VK, (∀ v, DR K mg W v z → Q v H) → r vs H Q) : C1D K mg r f :=
  fun xs z vs sd σ H W st hx hf Q q => h xs z vs H W st.le hx hf Q fun v hv => q v H W st Kp.refl hv
theorem cd_len : C1D K mg (fun xs H Q => ∃ x n, xs = [x] ∧ LenV K x H n ∧ Q (V.int ↑n) H) lenD := C1D.of fun xs z vs H W le hx hf Q q => by
  unfold lenD at hf
  split at hf
  · cases hf
    cases hx with
    | cons h1 h2 =>
      cases h2
      cases h1 with
      | lst s r => exact ⟨_, _, rfl, .inl ⟨_, .inl (.inl (le _ _ s)), r.len.symm⟩, q _ (.int _)⟩
  · cases hf
    cases hx with
    | cons h1 h2 =>
      cases h2
      cases h1 with
      | tup s r => exact ⟨_, _, rfl, .inr ⟨_, st_le le s, r.len.symm⟩, q _ (.int _)⟩
  · cases hf
    cases hx with
    | cons h1 h2 =>
      cases h2
      cases h1 with
      | scr s => exact ⟨_, _, rfl, .inl ⟨_, sl_le le s, by rw [List.length_map]⟩, q _ (.int _)⟩
  · split at hf
    · cases hf
      cases hx with
      | cons h1 h2 =>
        cases h2
        cases h1
        exact ⟨_, _, rfl, ⟨by assumption, rfl⟩, q _ (.int _)⟩
    · cases hf
  · cases hf
theorem cd_abs : C1D K mg (fun xs H Q => ∃ i, xs = [V.int i] ∧ Q (V.int (if i < 0 then -i else i)) H) absD := C1D.of fun xs z vs H W le hx hf Q q => by
  unfold absD at hf
  split at hf <;> cases hf
  cases hx with
  | cons h1 h2 => cases h2; cases h1; exact ⟨_, rfl, q _ (.int _)⟩
theorem cd_int : C1D K mg (fun xs H Q => (∃ i, xs = [V.int i] ∧ Q (V.int i) H) ∨ ∃ k, xs = [V.bl k] ∧ Q (V.int (if k = true then 1 else 0)) H) intcD := C1D.of fun xs z vs H W le hx hf Q q => by
  unfold intcD at hf
  split at hf <;> cases hf
  · cases hx with
    | cons h1 h2 => cases h2; cases h1; exact .inl ⟨_, rfl, q _ (.int _)⟩
  · cases hx with
    | cons h1 h2 => cases h2; cases h1; exact .inr ⟨_, rfl, q _ (.int _)⟩
theorem cd_max : C1D K mg (fun xs H Q => ∃ i j, xs = [V.int i, V.int j] ∧ Q (V.int (if j > i then j else i)) H) maxD := C1D.of fun xs z vs H W le hx hf Q q => by
  unfold maxD at hf
  split at hf <;> cases hf
  cases hx with
  | cons h1 h2 => cases h2 with
    | cons h2 h3 => cases h3; cases h1; cases h2; exact ⟨_, _, rfl, q _ (.int _)⟩
theorem cd_min : C1D K mg (fun xs H Q => ∃ i j, xs = [V.int i, V.int j] ∧ Q (V.int (if j < i then j else i)) H) minD := C1D.of fun xs z vs H W le hx hf Q q => by
  unfold minD at hf
  split at hf <;> cases hf
  cases hx with
  | cons h1 h2 => cases h2 with
    | cons h2 h3 => cases h3; cases h1; cases h2; exact ⟨_, _, rfl, q _ (.int _)⟩
theorem cd_tup : C1D K mg (rTupF K) tupcD := fun xs z vs sd σ H W st hx hf Q q => by
  unfold tupcD at hf
  split at hf <;> cases hf
  · cases hx with
    | cons h1 h2 =>
      cases h2
      cases h1 with
      | lst s r =>
        refine ⟨_, _, rfl, .inl ⟨.inl (.inl (st.le _ _ s)), fun p ob hp ho => ?_⟩⟩
        obtain ⟨g1, g2⟩ := st.newV hp (.frz ob (.tup _))
        exact q _ _ _ g1 g2 (.tup (.inl ⟨ob, upd_same, ho⟩) (r.le (Le.upd (st.free hp))))
  · cases hx with
    | cons h1 h2 =>
      cases h2
      cases h1 with
      | tup s r => exact ⟨_, _, rfl, .inr ⟨st_le st.le s, q _ H W st Kp.refl (.tup s r)⟩⟩
theorem co_list : C1O K mg (fun xs H Q => ∃ p ys, xs = [V.ref p] ∧ (SqL K H p ys ∨ SqT K H p ys) ∧ ∀ (l : Addr), H l = none → Q (V.ref l) (upd H l (HO.lst ys))) lstcD := fun xs z vs sd σ H W st hx hf Q q => by
  have go : ∀ {ys : List V} {ds : List D} {p : Addr}, H p = none → DRs K mg W ys ds → z = .lst ds → Q (.ref p) (upd H p (.lst ys)) := fun hp r e => by
    obtain ⟨g1, g2⟩ := st.newO hp (.lst _)
    exact q _ _ _ g1 g2 ⟨st.free hp, by rw [e]; exact ⟨_, upd_same, r⟩⟩ hp
  unfold lstcD at hf
  split at hf <;> cases hf
  · cases hx with
    | cons h1 h2 =>
      cases h2
      cases h1 with
      | lst s r => exact ⟨_, _, rfl, .inl (.inl (.inl (st.le _ _ s))), fun p hp => go hp r rfl⟩
  · cases hx with
    | cons h1 h2 =>
      cases h2
      cases h1 with
      | tup s r => exact ⟨_, _, rfl, .inr (st_le st.le s), fun p hp => go hp r rfl⟩
  · cases hx with
    | cons h1 h2 =>
      cases h2
      cases h1 with
      | scr s => exact ⟨_, _, rfl, .inl (sl_le st.le s), fun p hp => go hp ints_rs rfl⟩
theorem bls_rs {W : Hp} : ∀ {vs : List V} {ds : List D} {bs : List Bool}, DRs K mg W vs ds → blsD ds = some bs → vs = bs.map V.bl
  | _, _, _, .nil, h => by cases h; rfl
  | _, _, _, .cons r s, h => by
    cases r <;> simp only [blsD] at h <;> try cases h
    simp only [Option.map_eq_some_iff] at h
    obtain ⟨bs, h, rfl⟩ := h
    rw [bls_rs s h]; rfl
theorem cd_all : C1D K mg (rAll K) allD := C1D.of fun xs z vs H W le hx hf Q q => by
  unfold allD at hf
  split at hf
  · simp only [Option.map_eq_some_iff] at hf
    obtain ⟨bs, h, rfl⟩ := hf
    cases hx with
    | cons h1 h2 =>
      cases h2
      cases h1 with
      | lst s r => exact ⟨_, bs, rfl, by rw [← bls_rs r h]; exact .inl (.inl (le _ _ s)), q _ (.bl _)⟩
  · cases hf
end

section
variable {X : Cx} {e a b c : Expr} {es : List Expr} {x : Str} {p pos p2 apos : Pos}
theorem e_bi {id : String} {r : List V → Hp → VK → Prop} {f : List D → Option D} {ms : M (List D)} (hc : CallR X (.builtin id) r) (hr : C1D X.K X.mg r f) (hg : Gl X x) (hm : X.mg x = none) (hv : bootBuiltins x = some (.builtin id)) (hs : LA X (e :: es) ms) (hn : x ≠ "__name__" := by decide) (hdb : (x == ("__debug__" : Str)) = false := by decide)
    (he : starEach (e :: es) X.env = (false, eval e X.env) :: starEach es X.env := by rfl) (hpl : (backTo pos (starEach es X.env)).any (·.1) = false := by rfl) : DE X (.Call (.Name x p) (e :: es) [] pos) (bindM ms fun ds => optM (f ds)) := PE.imp (pe_callB hc hg hm hv hs hn hdb he hpl) fun σ H Q ⟨sd, W, d, sd', st, em, q⟩ => by
  obtain ⟨xs, s1, e1, em⟩ := bindM_some em
  obtain ⟨e2, rfl⟩ := optM_some em
  exact ⟨sd, W, xs, sd', st, e1, fun vs H1 W1 st1 k1 r1 => hr xs d vs sd' σ H1 W1 st1 r1 e2 Q fun v H2 W2 st2 k2 r2 => q v H2 W2 st2 (k1.trans k2) r2⟩
theorem e_ty {id : String} {r : List V → Hp → VK → Prop} {f : List D → Option D} {ms : M (List D)} (hc : CallR X (.type id) r) (hr : C1D X.K X.mg r f) (hg : Gl X x) (hm : X.mg x = none) (hv : bootBuiltins x = some (.type id)) (hs : LA X (e :: es) ms) (hn : x ≠ "__name__" := by decide) (hdb : (x == ("__debug__" : Str)) = false := by decide)
    (he : starEach (e :: es) X.env = (false, eval e X.env) :: starEach es X.env := by rfl) (hpl : (backTo pos (starEach es X.env)).any (·.1) = false := by rfl) : DE X (.Call (.Name x p) (e :: es) [] pos) (bindM ms fun ds => optM (f ds)) := PE.imp (pe_callTy hc hg hm hv hs hn hdb he hpl) fun σ H Q ⟨sd, W, d, sd', st, em, q⟩ => by
  obtain ⟨xs, s1, e1, em⟩ := bindM_some em
  obtain ⟨e2, rfl⟩ := optM_some em
  exact ⟨sd, W, xs, sd', st, e1, fun vs H1 W1 st1 k1 r1 => hr xs d vs sd' σ H1 W1 st1 r1 e2 Q fun v H2 W2 st2 k2 r2 => q v H2 W2 st2 (k1.trans k2) r2⟩
theorem o_ty {id : String} {r : List V → Hp → VK → Prop} {f : List D → Option O} {ms : M (List D)} (hc : CallR X (.type id) r) (hr : C1O X.K X.mg r f) (hg : Gl X x) (hm : X.mg x = none) (hv : bootBuiltins x = some (.type id)) (hs : LA X (e :: es) ms) (hn : x ≠ "__name__" := by decide) (hdb : (x == ("__debug__" : Str)) = false := by decide)
    (he : starEach (e :: es) X.env = (false, eval e X.env) :: starEach es X.env := by rfl) (hpl : (backTo pos (starEach es X.env)).any (·.1) = false := by rfl) : OE X (.Call (.Name x p) (e :: es) [] pos) (bindM ms fun ds => optM (f ds)) := PE.imp (pe_callTy hc hg hm hv hs hn hdb he hpl) fun σ H Q ⟨sd, W, d, sd', st, em, q⟩ => by
  obtain ⟨xs, s1, e1, em⟩ := bindM_some em
  obtain ⟨e2, rfl⟩ := optM_some em
  exact ⟨sd, W, xs, sd', st, e1, fun vs H1 W1 st1 k1 r1 => hr xs d vs sd' σ H1 W1 st1 r1 e2 Q fun v H2 W2 st2 k2 r2 hp => q v H2 W2 st2 (k1.trans k2) r2 (fun hw => (k2.own _ hw).elim (st1.notOwn hp) (fun _ => st1.notOwn hp hw)) (k1.fresh hp)⟩
/-! own lists by name -/
def ixN (i : Nat) (mb : M D) : M D := bindM (mLs i) fun _ => bindM mb fun j => bindM (mLs i) fun ds => optM (atD (.lst ds) j)
theorem e_ixN (i : Nat) {mb : M D} (hn : PE X (.Name x p2) (tVar i)) (hb : DE X b mb) (hs : PlainIx b := by exact fun _ _ => rfl) : DE X (.Subscript (.Name x p2) b pos) (ixN i mb) := PE.imp (pe_ix ix_list hn hb hs) fun σ H Q ⟨sd, W, d, sd', st, em, q⟩ => by
  obtain ⟨d0, s0, e0, em⟩ := bindM_some em
  obtain ⟨j, s1, e1, em⟩ := bindM_some em
  obtain ⟨ds, s2, e2, em⟩ := bindM_some em
  obtain ⟨e3, rfl⟩ := optM_some em
  obtain ⟨rfl, a, vs0, ha, _, _⟩ := mLs_at st e0
  refine ⟨_, ha, s0, W, j, s1, st, e1, fun v H1 W1 st1 k1 r1 => ?_⟩
  obtain ⟨rfl, a', vs, ha', h1, r⟩ := mLs_at st1 e2
  rw [ha] at ha'; cases ha'
  cases j with
  | int n =>
    cases r1
    obtain ⟨w, e4, rw⟩ := at_rs r (show atI ds n = some d from e3)
    exact ⟨_, vs, n, w, rfl, rfl, .inl (.inl h1), e4, q w H1 W1 st1 k1 rw⟩
  | _ => cases e3
def lenN (i : Nat) : M D := bindM (mLs i) fun ds => retM (.int ds.length)
theorem e_lenN (i : Nat) (hn : PE X (.Name x p2) (tVar i)) (hg : Gl X "len") (hm : X.mg "len" = none) : DE X (.Call (.Name "len" p) [.Name x p2] [] pos) (lenN i) := PE.imp (pe_callB call_len hg hm (by decide +kernel) (pa_cons hn pa_nil)) fun σ H Q ⟨sd, W, d, sd', st, em, q⟩ => by
  obtain ⟨ds, s1, e1, em⟩ := bindM_some em
  cases em
  obtain ⟨rfl, a, vs, ha, h1, r⟩ := mLs_at st e1
  exact ⟨_, ha, _, _, rfl, .inl ⟨vs, .inl (.inl h1), r.len.symm⟩, q _ H W st Kp.refl (.int _)⟩
/-- x.pop(e) -/
def popN (i : Nat) (mb : M D) : M D := bindM (mOwn i) fun _ => bindM mb fun j => bindM (mOwn i) fun ds => bindM (optM (intD j)) fun n => bindM (optM (if -2 ^ 63 ≤ n ∧ n < 2 ^ 63 then seqIndex? n ds.length else none)) fun k => bindM (optM ds[k]?) fun d => bindM (mPut i (ds.eraseIdx k)) fun _ => retM d
theorem e_popN (i : Nat) {mb : M D} (hn : PE X (.Name x p2) (tVar i)) (hb : DE X b mb) (h1 : attributeBase (.Name x p2) "pop" X.env (eval (.Name x p2) X.env) = eval (.Name x p2) X.env := by rfl)
    (h2 : ((((backTo pos (starEach [b] X.env)).all fun x => !x.1) && (backToKw pos (keywordEach [] X.env)).all fun x => x.1.isSome) && decide (([b].length + ([] : List Keyword).length + if ([] : List Keyword).isEmpty = true then 0 else 1) < 30)) = true := by rfl) (h3 : (apos.endLine == pos.line) = true := by rfl)
    (h4 : starEach [b] X.env = (false, eval b X.env) :: starEach [] X.env := by rfl) (h5 : (backTo pos (starEach [] X.env)).any (fun x => x.1) = false := by rfl) :
    DE X (.Call (.Attribute (.Name x p2) "pop" apos) [b] [] pos) (popN i mb) := PE.imp (pe_bm PySem.F.plainAttrs_list PySem.F.slot_list_pop PySem.F.type_list_pop mt_popAt hn (pa_cons hb pa_nil h4) h1 h2 h3 h4 h5) fun σ H Q ⟨sd, W, d, sd', st, em, q⟩ => by
  obtain ⟨d0, s0, e0, em⟩ := bindM_some em
  obtain ⟨j, s1, e1, em⟩ := bindM_some em
  obtain ⟨ds, s2, e2, em⟩ := bindM_some em
  obtain ⟨n, hn3, em⟩ := bindO_some em
  obtain ⟨k, hn4, em⟩ := bindO_some em
  obtain ⟨y, hn5, em⟩ := bindO_some em
  obtain ⟨_, s6, e6, em⟩ := bindM_some em
  cases em
  obtain ⟨rfl, _, a, vs0, ha, _, g0, _⟩ := mOwn_at st e0
  refine ⟨_, ha, .inl ⟨rfl, vs0, .inl (.inl g0)⟩, s0, W, j, s1, st, e1, fun v H1 W1 st1 k1 r1 => ?_⟩
  obtain ⟨rfl, es, a', vs, ha', w, g1, r⟩ := mOwn_at st1 e2
  rw [ha] at ha'; cases ha'
  split at hn4
  · rename_i hb
    cases j <;> cases hn3
    cases r1
    obtain ⟨z, ez, rz⟩ := r.get hn5
    cases e6
    obtain ⟨g2, g3⟩ := st1.put (ho := .lst (vs.eraseIdx k)) (o' := .lst (ds.eraseIdx k)) es ha w ⟨w, _, upd_same, r.erase k⟩
    exact ⟨_, vs, _, k, z, rfl, rfl, g1, hb.1, hb.2, by rw [r.len]; exact hn4, ez, q z _ _ g2 (k1.trans g3) rz⟩
  · cases hn4
end
end Fli
set_option Elab.async false
set_option linter.all false
set_option maxRecDepth 100000
set_option maxHeartbeats 4000000
namespace Fli
open PySem L2
variable [HW]

/-! statements -/
inductive Out where
  | nx (s : S) | rd (d : D) (s : S) | ro (o : O) (s : S) | bk (s : S) | ct (s : S)
abbrev MS := S → Option Out
/-- the slots that must stay where they are -/
def Pr (pr : List Nat) (σ σ' : L2.St) : Prop := ∀ i ∈ pr, σ'[i]? = σ[i]?
theorem Pr.refl {pr : List Nat} {σ : L2.St} : Pr pr σ σ := fun _ _ => rfl
theorem Pr.trans {pr : List Nat} {a b c : L2.St} (x : Pr pr a b) (y : Pr pr b c) : Pr pr a c := fun i h => (y i h).trans (x i h)
/-- an object that is handed back: new since then, or a slot's own that is not lent -/
def Fr (pr : List Nat) (sd : S) (σ : L2.St) (H : Hp) (p : Addr) : Prop := H p = none ∨ (Own sd σ p ∧ ∀ i ∈ pr, σ[i]? ≠ some (some (.ref p)))
theorem Fr.back {pr : List Nat} {sd s1 : S} {σ σ1 : L2.St} {H W H1 W1 : Hp} {p : Addr} (k : Kp sd σ H W s1 σ1 H1 W1) (q : Pr pr σ σ1) (h : Fr pr s1 σ1 H1 p) : Fr pr sd σ H p := by
  rcases h with h | ⟨h, n⟩
  · exact .inl (k.fresh h)
  · rcases k.own p h with z | z
    · exact .inr ⟨z, fun i hi => by rw [← q i hi]; exact n i hi⟩
    · exact .inl z
section
variable (K : PySem.W.Frag) (mg : Str → Option Value) (pr : List Nat)
def Post (D : Ends) (sd : S) (σ : L2.St) (H W : Hp) : Out → Prop
  | .nx s' => ∀ σ' H' W', St K mg s' σ' H' W' → Kp sd σ H W s' σ' H' W' → Pr pr σ σ' → D.nx σ' H'
  | .bk s' => ∀ σ' H' W', St K mg s' σ' H' W' → Kp sd σ H W s' σ' H' W' → Pr pr σ σ' → D.bk σ' H'
  | .ct s' => ∀ σ' H' W', St K mg s' σ' H' W' → Kp sd σ H W s' σ' H' W' → Pr pr σ σ' → D.ct σ' H'
  | .rd d s' => ∀ v σ' H' W', St K mg s' σ' H' W' → Kp sd σ H W s' σ' H' W' → Pr pr σ σ' → DR K mg W' v d → D.rt v H'
  | .ro o s' => ∀ p σ' H' W', St K mg s' σ' H' W' → Kp sd σ H W s' σ' H' W' → Pr pr σ σ' → OR K mg H' W' p o → ¬ Own s' σ' p → Fr pr sd σ H p → D.rt (.ref p) H'
def tM (m : MS) : TS := fun D σ H => ∃ sd W out, St K mg sd σ H W ∧ m sd = some out ∧ Post K mg pr D sd σ H W out
end
abbrev SE (X : Cx) (pr : List Nat) (st : Stmt) (m : MS) : Prop := PS X st (tM X.K X.mg pr m)
abbrev SEs (X : Cx) (pr : List Nat) (st : List Stmt) (m : MS) : Prop := PSs X st (tM X.K X.mg pr m)
section
variable {K : PySem.W.Frag} {mg : Str → Option Value} {pr : List Nat} {D : Ends} {sd s1 : S} {σ σ1 : L2.St} {H H1 W W1 : Hp} {out : Out}
theorem Post.behind (h : Post K mg pr D sd σ H W out) (k : Kp sd σ H W s1 σ1 H1 W1) (p : Pr pr σ σ1) : Post K mg pr D s1 σ1 H1 W1 out := by
  cases out with
  | nx s' => exact fun σ' H' W' st k' p' => h σ' H' W' st (k.trans k') (p.trans p')
  | bk s' => exact fun σ' H' W' st k' p' => h σ' H' W' st (k.trans k') (p.trans p')
  | ct s' => exact fun σ' H' W' st k' p' => h σ' H' W' st (k.trans k') (p.trans p')
  | rd d s' => exact fun v σ' H' W' st k' p' => h v σ' H' W' st (k.trans k') (p.trans p')
  | ro o s' => exact fun v σ' H' W' st k' p' r n e => h v σ' H' W' st (k.trans k') (p.trans p') r n (Fr.back k p e)
theorem St.setD (st : St K mg sd σ H W) {v : V} {d : Fli.D} (r : DR K mg W v d) (i : Nat) : St K mg (sd.set i (some (.d d))) (σ.set i (some v)) H W ∧ Kp sd σ H W (sd.set i (some (.d d))) (σ.set i (some v)) H W := by
  have ne : ∀ (j : Nat) (o : O), (sd.set i (some (A.d d)))[j]? = some (some (A.own o)) → i ≠ j ∧ sd[j]? = some (some (A.own o)) := fun j o h => by
    by_cases z : i = j
    · subst z
      by_cases l : i < sd.length
      · rw [List.getElem?_set_self l] at h; cases h
      · rw [List.getElem?_eq_none (by rw [List.length_set]; omega)] at h; cases h
    · rw [List.getElem?_set_ne z] at h; exact ⟨z, h⟩
  refine ⟨⟨st.le, by rw [List.length_set, List.length_set]; exact st.len, fun j d' h => ?_, fun j o h => ?_, fun j k o u a h1 h2 e1 e2 => ?_⟩, ⟨Le.refl _, fun _ _ h _ => h, fun _ h _ _ => h, fun a ⟨j, o, h1, h2⟩ => ?_, fun _ h => h⟩⟩
  · by_cases z : i = j
    · subst z
      by_cases l : i < sd.length
      · rw [List.getElem?_set_self l] at h; cases h
        exact ⟨v, by rw [List.getElem?_set_self (by rw [← st.len]; exact l)], r⟩
      · rw [List.getElem?_eq_none (by rw [List.length_set]; omega)] at h; cases h
    · rw [List.getElem?_set_ne z] at h
      rw [List.getElem?_set_ne z]
      exact st.dat j d' h
  · obtain ⟨z, h⟩ := ne j o h
    rw [List.getElem?_set_ne z]
    exact st.own j o h
  · obtain ⟨z1, h1⟩ := ne j o h1
    obtain ⟨z2, h2⟩ := ne k u h2
    rw [List.getElem?_set_ne z1] at e1
    rw [List.getElem?_set_ne z2] at e2
    exact st.inj j k o u a h1 h2 e1 e2
  · obtain ⟨z, h1⟩ := ne j o h1
    rw [List.getElem?_set_ne z] at h2
    exact .inl ⟨j, o, h1, h2⟩
theorem St.setO (st : St K mg sd σ H W) {p : Addr} {o : O} (r : OR K mg H W p o) (n : ¬ Own sd σ p) (i : Nat) : St K mg (sd.set i (some (.own o))) (σ.set i (some (.ref p))) H W ∧ ∀ a, Own (sd.set i (some (.own o))) (σ.set i (some (.ref p))) a → Own sd σ a ∨ a = p := by
  have cs : ∀ (j : Nat) (u : O) (a : Addr), (sd.set i (some (A.own o)))[j]? = some (some (A.own u)) → (σ.set i (some (V.ref p)))[j]? = some (some (V.ref a)) → (i = j ∧ u = o ∧ a = p) ∨ (i ≠ j ∧ sd[j]? = some (some (A.own u)) ∧ σ[j]? = some (some (V.ref a))) := fun j u a h e => by
    by_cases z : i = j
    · subst z
      by_cases l : i < sd.length
      · rw [List.getElem?_set_self l] at h
        rw [List.getElem?_set_self (by rw [← st.len]; exact l)] at e
        cases h; cases e
        exact .inl ⟨rfl, rfl, rfl⟩
      · rw [List.getElem?_eq_none (by rw [List.length_set]; omega)] at h; cases h
    · rw [List.getElem?_set_ne z] at h e
      exact .inr ⟨z, h, e⟩
  refine ⟨⟨st.le, by rw [List.length_set, List.length_set]; exact st.len, fun j d' h => ?_, fun j u h => ?_, fun j k u w a h1 h2 e1 e2 => ?_⟩, fun a ⟨j, u, h1, h2⟩ => ?_⟩
  · have z : i ≠ j := fun z => by
      subst z
      by_cases l : i < sd.length
      · rw [List.getElem?_set_self l] at h; cases h
      · rw [List.getElem?_eq_none (by rw [List.length_set]; omega)] at h; cases h
    rw [List.getElem?_set_ne z] at h ⊢
    exact st.dat j d' h
  · by_cases z : i = j
    · subst z
      by_cases l : i < sd.length
      · rw [List.getElem?_set_self l] at h; cases h
        exact ⟨p, by rw [List.getElem?_set_self (by rw [← st.len]; exact l)], r⟩
      · rw [List.getElem?_eq_none (by rw [List.length_set]; omega)] at h; cases h
    · rw [List.getElem?_set_ne z] at h ⊢
      exact st.own j u h
  · rcases cs j u a h1 e1 with ⟨rfl, _, rfl⟩ | ⟨z1, q1, g1⟩
    · rcases cs k w a h2 e2 with ⟨z, _, _⟩ | ⟨z2, q2, g2⟩
      · exact z
      · exact absurd ⟨k, w, q2, g2⟩ n
    · rcases cs k w a h2 e2 with ⟨_, _, rfl⟩ | ⟨z2, q2, g2⟩
      · exact absurd ⟨j, u, q1, g1⟩ n
      · exact st.inj j k u w a q1 q2 g1 g2
  · rcases cs j u a h1 h2 with ⟨_, _, z⟩ | ⟨_, q, g⟩
    · exact .inr z
    · exact .inl ⟨j, u, q, g⟩
end

/-- a target: what it does with data -/
def TGk (K : PySem.W.Frag) (mg : Str → Option Value) (pr : List Nat) (g : TG) (f : D → S → Option S) : Prop :=
  ∀ v d sd s1 σ H W, St K mg sd σ H W → DR K mg W v d → f d sd = some s1 → ∀ Q : L2.St → Hp → Prop, (∀ σ1 H1 W1, St K mg s1 σ1 H1 W1 → Kp sd σ H W s1 σ1 H1 W1 → Pr pr σ σ1 → Q σ1 H1) → g v σ H Q
def TGs' (K : PySem.W.Frag) (mg : Str → Option Value) (pr : List Nat) (g : TGs) (f : List D → S → Option S) : Prop :=
  ∀ v d sd s1 σ H W, St K mg sd σ H W → DRs K mg W v d → f d sd = some s1 → ∀ Q : L2.St → Hp → Prop, (∀ σ1 H1 W1, St K mg s1 σ1 H1 W1 → Kp sd σ H W s1 σ1 H1 W1 → Pr pr σ σ1 → Q σ1 H1) → g v σ H Q
def setF (i : Nat) : D → S → Option S := fun d s => some (s.set i (some (.d d)))
def nilF : List D → S → Option S := fun ds s => match ds with | [] => some s | _ => none
def consF (f : D → S → Option S) (g : List D → S → Option S) : List D → S → Option S := fun ds s => match ds with | d :: r => (f d s).bind (g r) | [] => none
def tupF (n : Nat) (g : List D → S → Option S) : D → S → Option S := fun d s => match d with | .tup ds => if ds.length = n then g ds s else none | _ => none
theorem pr_set {pr : List Nat} {σ : L2.St} {i : Nat} {x : Option V} (h : i ∉ pr) : Pr pr σ (σ.set i x) := fun j hj => by
  rw [List.getElem?_set_ne fun z => h (by rw [z]; exact hj)]
section
variable {K : PySem.W.Frag} {mg : Str → Option Value} {pr : List Nat}
theorem tg_name {i : Nat} (hp : i ∉ pr) : TGk K mg pr (gName i) (setF i) := fun v d sd s1 σ H W st r e Q q => by
  cases e
  obtain ⟨g1, g2⟩ := st.setD r i
  exact q _ H W g1 g2 (pr_set hp)
theorem tg_nil : TGs' K mg pr (gNil) nilF := fun v d sd s1 σ H W st r e Q q => by
  cases r with
  | nil => cases e; exact ⟨rfl, q σ H W st Kp.refl Pr.refl⟩
  | cons _ _ => cases e
theorem tg_cons {g : TG} {gs : TGs} {f : D → S → Option S} {fs : List D → S → Option S} (h : TGk K mg pr g f) (hs : TGs' K mg pr gs fs) : TGs' K mg pr (gCons g gs) (consF f fs) := fun v d sd s1 σ H W st r e Q q => by
  cases r with
  | nil => cases e
  | cons r1 r2 =>
    simp only [consF, Option.bind_eq_some_iff] at e
    obtain ⟨s2, e1, e2⟩ := e
    refine ⟨_, _, rfl, h _ _ sd s2 σ H W st r1 e1 _ fun σ1 H1 W1 st1 k1 p1 => hs _ _ s2 s1 σ1 H1 W1 st1 (r2.le k1.le) e2 Q fun σ2 H2 W2 st2 k2 p2 => q σ2 H2 W2 st2 (k1.trans k2) (p1.trans p2)⟩
theorem tg_tup {n : Nat} {gs : TGs} {fs : List D → S → Option S} (hs : TGs' K mg pr gs fs) : TGk K mg pr (gTup K n gs) (tupF n fs) := fun v d sd s1 σ H W st r e Q q => by
  unfold tupF at e
  split at e
  · split at e
    · cases r with
      | tup s r => exact ⟨_, _, rfl, st_le st.le s, by rw [r.len]; assumption, hs _ _ sd s1 σ H W st r e Q q⟩
    · cases e
  · cases e
end

section
variable {X : Cx} {pr : List Nat} {e : Expr} {st : Stmt} {sts sts' : List Stmt} {pos : Pos}
def seqM (a b : MS) : MS := fun s => (a s).bind fun o => match o with | .nx s1 => b s1 | r => some r
def nxM : MS := fun s => some (.nx s)
theorem ss_nil : SEs X pr [] nxM := PSs.imp pss_nil fun D σ H ⟨sd, W, out, stt, em, q⟩ => by
  cases em
  exact q σ H W stt Kp.refl Pr.refl
theorem ss_cons {m ms : MS} (h : SE X pr st m) (hs : SEs X pr sts ms) : SEs X pr (st :: sts) (seqM m ms) := PSs.imp (pss_cons h hs) fun D σ H ⟨sd, W, out, stt, em, q⟩ => by
  simp only [seqM, Option.bind_eq_some_iff] at em
  obtain ⟨o, e1, e2⟩ := em
  refine ⟨sd, W, o, stt, e1, ?_⟩
  cases o with
  | nx s1 => exact fun σ1 H1 W1 st1 k1 p1 => ⟨s1, W1, out, st1, e2, q.behind k1 p1⟩
  | _ => cases e2; exact q
def retMS (m : M D) : MS := fun s => (m s).map fun p => .rd p.1 p.2
def retOS (m : M O) : MS := fun s => (m s).map fun p => .ro p.1 p.2
theorem s_ret {m : M D} (h : DE X e m) : SE X pr (.Return (some e) pos) (retMS m) := PS.imp (ps_ret h) fun D σ H ⟨sd, W, out, stt, em, q⟩ => by
  simp only [retMS, Option.map_eq_some_iff] at em
  obtain ⟨⟨d, s1⟩, e1, rfl⟩ := em
  exact ⟨sd, W, d, s1, stt, e1, fun v H1 W1 st1 k1 r => q v σ H1 W1 st1 k1 Pr.refl r⟩
theorem s_retO {m : M O} (h : OE X e m) : SE X pr (.Return (some e) pos) (retOS m) := PS.imp (ps_ret h) fun D σ H ⟨sd, W, out, stt, em, q⟩ => by
  simp only [retOS, Option.map_eq_some_iff] at em
  obtain ⟨⟨d, s1⟩, e1, rfl⟩ := em
  exact ⟨sd, W, d, s1, stt, e1, fun v H1 W1 st1 k1 r n e => q v σ H1 W1 st1 k1 Pr.refl r n (.inl e)⟩
def ifS (c : M Bool) (a b : MS) : MS := fun s => (c s).bind fun p => match p.1 with | true => a p.2 | false => b p.2
theorem s_if {mc : M Bool} {ma mb : MS} (hc : BT X e mc) (ha : SEs X pr sts ma) (hb : SEs X pr sts' mb) : SE X pr (.If e sts sts' pos) (ifS mc ma mb) := PS.imp (ps_if hc ha hb) fun D σ H ⟨sd, W, out, stt, em, q⟩ => by
  simp only [ifS, Option.bind_eq_some_iff] at em
  obtain ⟨⟨k, s1⟩, e1, em⟩ := em
  refine ⟨sd, W, k, s1, stt, e1, fun H1 W1 st1 k1 => ?_⟩
  cases k with
  | true => rw [if_pos rfl]; exact ⟨s1, W1, out, st1, em, q.behind k1 Pr.refl⟩
  | false => rw [if_neg (by simp)]; exact ⟨s1, W1, out, st1, em, q.behind k1 Pr.refl⟩
def asgM (m : M D) (f : D → S → Option S) : MS := fun s => (m s).bind fun p => (f p.1 p.2).map .nx
theorem s_asg {tg : Expr} {m : M D} {g : TG} {f : D → S → Option S} (h : DE X e m) (hg : PG X tg g) (hf : TGk X.K X.mg pr g f) (h1 : swapsWithSole [tg] e pos.line X.env = pure false := by rfl) (h2 : swappedStores [tg] e X.env = pure none := by rfl)
    (h3 : (assignEach [tg] X.env).map (fun x => x.2) = [assign tg X.env] := by rfl) : SE X pr (.Assign [tg] e pos) (asgM m f) := PS.imp (ps_asg h hg h1 h2 h3) fun D σ H ⟨sd, W, out, stt, em, q⟩ => by
  simp only [asgM, Option.bind_eq_some_iff, Option.map_eq_some_iff] at em
  obtain ⟨⟨d, s1⟩, e1, s2, e2, rfl⟩ := em
  exact ⟨sd, W, d, s1, stt, e1, fun v H1 W1 st1 k1 r => hf v d s1 s2 σ H1 W1 st1 r e2 _ fun σ2 H2 W2 st2 k2 p2 => q σ2 H2 W2 st2 (k1.trans k2) p2⟩
def asgO (m : M O) (i : Nat) : MS := fun s => (m s).map fun p => .nx (p.2.set i (some (.own p.1)))
theorem t_asgO {K : PySem.W.Frag} {mg : Str → Option Value} {m : M O} {i : Nat} (hp : i ∉ pr) {D : Ends} {σ : L2.St} {H : Hp} (h : tM K mg pr (asgO m i) D σ H) : tAsg (tO K mg m) (gName i) D σ H := by
  obtain ⟨sd, W, out, stt, em, q⟩ := h
  simp only [asgO, Option.map_eq_some_iff] at em
  obtain ⟨⟨o, s1⟩, e1, rfl⟩ := em
  refine ⟨sd, W, o, s1, stt, e1, fun p H1 W1 st1 k1 r n hn => ?_⟩
  obtain ⟨g1, g2⟩ := st1.setO r n i
  refine q _ H1 W1 g1 ⟨k1.le, k1.keep, k1.new, fun a ha => ?_, k1.there⟩ (pr_set hp)
  rcases g2 a ha with z | z
  · exact k1.own a z
  · rw [z]; exact .inr hn
theorem s_asgO {i : Nat} {tg : Expr} {m : M O} (h : OE X e m) (hg : PG X tg (gName i)) (hp : i ∉ pr) (h1 : swapsWithSole [tg] e pos.line X.env = pure false := by rfl) (h2 : swappedStores [tg] e X.env = pure none := by rfl)
    (h3 : (assignEach [tg] X.env).map (fun x => x.2) = [assign tg X.env] := by rfl) : SE X pr (.Assign [tg] e pos) (asgO m i) := PS.imp (ps_asg h hg h1 h2 h3) fun D σ H h => t_asgO hp h
/-- x.append(e) -/
def appN (i : Nat) (m : M D) : MS := fun s => (bindM (mOwn i) (fun _ => bindM m fun d => bindM (mOwn i) fun ds => bindM (optM (if ds.length < sizeLine then some () else none)) fun _ => mPut i (ds ++ [d])) s).map fun p => .nx p.2
theorem s_appN (i : Nat) {x : Str} {p2 apos cpos : Pos} {m : M D} (hn : PE X (.Name x p2) (tVar i)) (hb : DE X e m) (h1 : attributeBase (.Name x p2) "append" X.env (eval (.Name x p2) X.env) = eval (.Name x p2) X.env := by rfl)
    (h2 : ((((backTo cpos (starEach [e] X.env)).all fun x => !x.1) && (backToKw cpos (keywordEach [] X.env)).all fun x => x.1.isSome) && decide (([e].length + ([] : List Keyword).length + if ([] : List Keyword).isEmpty = true then 0 else 1) < 30)) = true := by rfl) (h3 : (apos.endLine == cpos.line) = true := by rfl)
    (h4 : starEach [e] X.env = (false, eval e X.env) :: starEach [] X.env := by rfl) (h5 : (backTo cpos (starEach [] X.env)).any (fun x => x.1) = false := by rfl)
    (h6 : swapsWith (.Call (.Attribute (.Name x p2) "append" apos) [e] [] cpos) none pos.line X.env = pure false := by rfl) :
    SE X pr (.Expr (.Call (.Attribute (.Name x p2) "append" apos) [e] [] cpos) pos) (appN i m) := PS.imp (ps_expr (pe_bm PySem.F.plainAttrs_list PySem.F.slot_list_append PySem.F.type_list_append mt_append hn (pa_cons hb pa_nil h4) h1 h2 h3 h4 h5) h6) fun D σ H ⟨sd, W, out, st, em, q⟩ => by
  simp only [appN, Option.map_eq_some_iff] at em
  obtain ⟨⟨_, s9⟩, em, rfl⟩ := em
  obtain ⟨d0, s0, e0, em⟩ := bindM_some em
  obtain ⟨d, s1, e1, em⟩ := bindM_some em
  obtain ⟨ds, s2, e2, em⟩ := bindM_some em
  obtain ⟨_, hz, emf⟩ := bindO_some em
  obtain ⟨rfl, _, a, vs0, ha, _, g0, _⟩ := mOwn_at st e0
  refine ⟨_, ha, .inl ⟨rfl, vs0, .inl (.inl g0)⟩, s0, W, d, s1, st, e1, fun v H1 W1 st1 k1 r1 => ?_⟩
  obtain ⟨rfl, es, a', vs, ha', w, g1, r⟩ := mOwn_at st1 e2
  rw [ha] at ha'; cases ha'
  split at hz
  · rename_i hl
    cases emf
    obtain ⟨g2, g3⟩ := st1.put (ho := .lst (vs ++ [v])) (o' := .lst (ds ++ [d])) es ha w ⟨w, _, upd_same, r.app (.cons r1 .nil)⟩
    exact ⟨_, vs, _, rfl, rfl, g1, by rw [r.len]; exact hl, q σ _ _ g2 (k1.trans g3) Pr.refl⟩
  · cases hz
/-- x[e] = f -/
def putN (i : Nat) (mi m : M D) : MS := fun s => (bindM m (fun d => bindM (mOwn i) fun _ => bindM mi fun j => bindM (mOwn i) fun ds => bindM (optM ((intD j).bind fun n => ixN' ds.length n)) fun k => mPut i (ds.set k d)) s).map fun p => .nx p.2
where ixN' (n : Nat) (i : Int) : Option Nat := L2.ixN n i
theorem s_putN (i : Nat) {x : Str} {p2 p3 : Pos} {b : Expr} {m mi : M D} (hn : PE X (.Name x p2) (tVar i)) (hb : DE X b mi) (h : DE X e m) (h0 : ∀ (v : Value), assign (.Subscript (.Name x p2) b p3) X.env v = (do
                let ov ← holding [v] (eval (.Name x p2) X.env)
                let iv ← holding [v, ov] (eval b X.env)
                standAt p3
                holding [v, ov, iv] (setItem ov iv v)
                release [v, ov, iv] []) := by exact fun _ => rfl)
    (h1 : swapsWithSole [.Subscript (.Name x p2) b p3] e pos.line X.env = pure false := by rfl) (h2 : swappedStores [.Subscript (.Name x p2) b p3] e X.env = pure none := by rfl)
    (h3 : (assignEach [.Subscript (.Name x p2) b p3] X.env).map (fun x => x.2) = [assign (.Subscript (.Name x p2) b p3) X.env] := by rfl) : SE X pr (.Assign [.Subscript (.Name x p2) b p3] e pos) (putN i mi m) := PS.imp (ps_asg h (pg_sub hn hb set_list h0) h1 h2 h3) fun D σ H ⟨sd, W, out, st, em, q⟩ => by
  simp only [putN, Option.map_eq_some_iff] at em
  obtain ⟨⟨_, s9⟩, em, rfl⟩ := em
  obtain ⟨d, s0, e0, em⟩ := bindM_some em
  obtain ⟨d1, s1, e1, em⟩ := bindM_some em
  obtain ⟨j, s2, e2, em⟩ := bindM_some em
  obtain ⟨ds, s3, e3, em⟩ := bindM_some em
  obtain ⟨k, hk, emf⟩ := bindO_some em
  refine ⟨sd, W, d, s0, st, e0, fun v H1 W1 st1 k1 r1 => ?_⟩
  obtain ⟨rfl, _, a, vs0, ha, _, g0, _⟩ := mOwn_at st1 e1
  refine ⟨_, ha, s1, W1, j, s2, st1, e2, fun u H2 W2 st2 k2 r2 => ?_⟩
  obtain ⟨rfl, es, a', vs, ha', w, g1, r⟩ := mOwn_at st2 e3
  rw [ha] at ha'; cases ha'
  cases j with
  | int n =>
    cases r2
    cases emf
    obtain ⟨g2, g3⟩ := st2.put (ho := .lst (vs.set k v)) (o' := .lst (ds.set k d)) es ha w ⟨w, _, upd_same, DRs.set (r1.le k2.le) k r⟩
    exact ⟨_, vs, n, k, rfl, rfl, g1, by rw [r.len]; exact hk, q σ _ _ g2 ((k1.trans k2).trans g3) Pr.refl⟩
  | _ => cases hk
end
end Fli
set_option Elab.async false
set_option linter.all false
set_option maxRecDepth 100000
set_option maxHeartbeats 4000000
namespace Fli
open PySem L2
variable [HW]

/-! loops -/
def loopM (asg : D → S → Option S) (body : MS) : List D → MS
  | [], s => some (.nx s)
  | d :: ds, s => (asg d s).bind fun s1 => (body s1).bind fun o => match o with
    | .nx s2 => loopM asg body ds s2
    | .ct s2 => loopM asg body ds s2
    | .bk s2 => some (.nx s2)
    | r => some r
def itD : D → Option (List D)
  | .lst ds => some ds
  | .tup ds => some ds
  | .str z => some (z.cps.toList.map fun c => .str ⟨#[c]⟩)
  | _ => none
theorem str_it {z : Str} {i c : Nat} (h : z.cps[i]? = some c) : (z.cps.toList.map fun c => D.str ⟨#[c]⟩)[i]? = some (.str ⟨#[c]⟩) := by
  rw [List.getElem?_map, Array.getElem?_toList, h]; rfl
def rngD (lo : Int) (n : Nat) : List D := (List.range n).map fun (i : Nat) => D.int (lo + (i : Int))
theorem rngD_get {lo : Int} {n i : Nat} (h : i < n) : (rngD lo n)[i]? = some (.int (lo + (i : Int))) := by
  unfold rngD
  rw [List.getElem?_map, List.getElem?_range h]; rfl
section
variable {K : PySem.W.Frag} {mg : Str → Option Value} {pr : List Nat} {D : Ends} {sd : S} {σ : L2.St} {H W : Hp} {out : Out} {g : TG} {asg : Fli.D → S → Option S} {m : MS}
/-- between two turns -/
def Turn (K : PySem.W.Frag) (mg : Str → Option Value) (pr : List Nat) (sd : S) (σ : L2.St) (H W : Hp) (asg : Fli.D → S → Option S) (m : MS) (items : List Fli.D) (out : Out) (i : Nat) (σ' : L2.St) (H' : Hp) : Prop :=
  ∃ sd' W', St K mg sd' σ' H' W' ∧ Kp sd σ H W sd' σ' H' W' ∧ Pr pr σ σ' ∧ loopM asg m (items.drop i) sd' = some out
theorem Turn.one {items : List Fli.D} {i : Nat} {d : Fli.D} {x : V} {σ' : L2.St} {H' : Hp} (hg : TGk K mg pr g asg) (q : Post K mg pr D sd σ H W out) (hd : items[i]? = some d) (t : Turn K mg pr sd σ H W asg m items out i σ' H')
    (hx : ∀ W', Le W W' → DR K mg W' x d) : g x σ' H' fun σ2 H2 => tM K mg pr m { nx := Turn K mg pr sd σ H W asg m items out (i + 1), rt := D.rt, bk := D.nx, ct := Turn K mg pr sd σ H W asg m items out (i + 1) } σ2 H2 := by
  obtain ⟨sd', W', st, k, p, em⟩ := t
  have hl : i < items.length := (List.getElem?_eq_some_iff.mp hd).1
  have hd' : items[i] = d := (List.getElem?_eq_some_iff.mp hd).2
  rw [List.drop_eq_getElem_cons hl, hd'] at em
  simp only [loopM, Option.bind_eq_some_iff] at em
  obtain ⟨s1, e1, o, e2, em⟩ := em
  refine hg x d sd' s1 σ' H' W' st (hx W' k.le) e1 _ fun σ1 H1 W1 st1 k1 p1 => ⟨s1, W1, o, st1, e2, ?_⟩
  have k' := k.trans k1
  have p' := p.trans p1
  cases o with
  | nx s2 => exact fun σ2 H2 W2 st2 k2 p2 => ⟨s2, W2, st2, k'.trans k2, p'.trans p2, em⟩
  | ct s2 => exact fun σ2 H2 W2 st2 k2 p2 => ⟨s2, W2, st2, k'.trans k2, p'.trans p2, em⟩
  | bk s2 =>
    cases em
    exact fun σ2 H2 W2 st2 k2 p2 => q σ2 H2 W2 st2 (k'.trans k2) (p'.trans p2)
  | rd d s2 =>
    cases em
    exact fun v σ2 H2 W2 st2 k2 p2 r => q v σ2 H2 W2 st2 (k'.trans k2) (p'.trans p2) r
  | ro o s2 =>
    cases em
    exact fun v σ2 H2 W2 st2 k2 p2 r n e => q v σ2 H2 W2 st2 (k'.trans k2) (p'.trans p2) r n (Fr.back k' p' e)
theorem Turn.done {items : List Fli.D} {σ' : L2.St} {H' : Hp} {n : Nat} (hn : items.length ≤ n) (q : Post K mg pr D sd σ H W out) (t : Turn K mg pr sd σ H W asg m items out n σ' H') : D.nx σ' H' := by
  obtain ⟨sd', W', st, k, p, em⟩ := t
  rw [List.drop_eq_nil_of_le hn] at em
  cases em
  exact q σ' H' W' st k p
end

section
variable {X : Cx} {pr : List Nat} {e a b tg : Expr} {sts : List Stmt} {pos p : Pos} {g : TG} {asg : D → S → Option S} {m : MS}
def forL (mi : M D) (asg : D → S → Option S) (m : MS) : MS := fun s => (mi s).bind fun q => (itD q.1).bind fun ds => loopM asg m ds q.2
/-- what a for walks: a list or a tuple of data -/
def iSeq (K : PySem.W.Frag) (t : TE) : TI := fun σ H R => iList K t σ H R ∨ iTup K t σ H R
theorem s_forL {mi : M D} (hi : DE X e mi) (hg : PG X tg g) (hf : TGk X.K X.mg pr g asg) (hb : SEs X pr sts m) (hc : X.calm = true) (hp : PassesOwn (model X.prog X.w) X.A X.env X.xe) (hfs : ∀ (x : Value), foldedSetIterable e X.env x = pure x := by intro _; rfl) : SE X pr (.For tg e sts [] pos) (forL mi asg m) := by
  have h1 := ps_for (pos := pos) hp hc (pi_list (tg := tg) hi) hg hb hfs
  have h2 := ps_for (pos := pos) hp hc (pi_tup (tg := tg) hi) hg hb hfs
  have h3 := ps_for (pos := pos) hp hc (pi_str (tg := tg) hi) hg hb hfs
  refine ⟨fun pins s σ H D I ⟨sd, W, out, st, em, q⟩ => ?_⟩
  simp only [forL, Option.bind_eq_some_iff] at em
  obtain ⟨⟨d, s1⟩, e1, ds, e2, em⟩ := em
  cases d with
  | lst es =>
    cases e2
    refine h1.run pins s σ H D I ⟨sd, W, _, s1, st, e1, fun v H1 W1 st1 k1 r1 => ?_⟩
    cases r1 with
    | @lst a vs _ sa r =>
      refine ⟨a, rfl, ⟨vs, .inl (.inl (st1.le _ _ sa))⟩, for_list (K := X.K) (a := a) (xs := vs) (Turn X.K X.mg pr s1 σ H1 W1 asg m ds out) ⟨s1, W1, st1, Kp.refl, Pr.refl, em⟩
        (fun i σ' H' _ ⟨sd', W', st', k', _, _⟩ => .inl (.inl (st'.le _ _ (k'.le _ _ sa)))) (fun i x σ' H' hx t => ?_) fun σ' H' t => Turn.done (by rw [r.len]; exact Nat.le_refl _) (q.behind k1 Pr.refl) t⟩
      obtain ⟨d, hd, rd⟩ := r.get' hx
      exact Turn.one hf (q.behind k1 Pr.refl) hd t fun W' le => rd.le le
  | tup es =>
    cases e2
    refine h2.run pins s σ H D I ⟨sd, W, _, s1, st, e1, fun v H1 W1 st1 k1 r1 => ?_⟩
    cases r1 with
    | @tup a vs _ sa r =>
      refine ⟨a, rfl, ⟨vs, st_le st1.le sa⟩, for_tup (K := X.K) (a := a) (xs := vs) (Turn X.K X.mg pr s1 σ H1 W1 asg m ds out) ⟨s1, W1, st1, Kp.refl, Pr.refl, em⟩
        (fun i σ' H' _ ⟨sd', W', st', k', _, _⟩ => st_le (k'.le.trans st'.le) sa) (fun i x σ' H' hx t => ?_) fun σ' H' t => Turn.done (by rw [r.len]; exact Nat.le_refl _) (q.behind k1 Pr.refl) t⟩
      obtain ⟨d, hd, rd⟩ := r.get' hx
      exact Turn.one hf (q.behind k1 Pr.refl) hd t fun W' le => rd.le le
  | str z =>
    cases e2
    refine h3.run pins s σ H D I ⟨sd, W, _, s1, st, e1, fun v H1 W1 st1 k1 r1 => ?_⟩
    cases r1
    have qq := q.behind k1 Pr.refl
    refine ⟨z, rfl, fun i m' σ' H' => Turn X.K X.mg pr s1 σ H1 W1 asg m (z.cps.toList.map fun c => .str ⟨#[c]⟩) out i σ' H' ∧ m' + i = z.cps.size, ⟨z.cps.size, ⟨s1, W1, st1, Kp.refl, Pr.refl, em⟩, rfl⟩, ?_⟩
    rintro i m' σ' H' ⟨t, hm'⟩
    by_cases hi : i < z.cps.size
    · refine .inr ⟨hi, fun σ2 H2 => Turn X.K X.mg pr s1 σ H1 W1 asg m (z.cps.toList.map fun c => .str ⟨#[c]⟩) out (i + 1) σ2 H2, fun σ2 H2 n => ⟨m' - 1, by omega, n, by omega⟩, ?_⟩
      rintro x H2 ⟨rfl, c, hc, rfl⟩
      exact Turn.one hf qq (str_it hc) t fun W' le => .str _
    · exact .inl ⟨by show z.cps.size ≤ i; omega, Turn.done (by simp; omega) qq t⟩
  | _ => cases e2
def okR (j : Int) : Bool := decide (-2 ^ 62 ≤ j ∧ j < 2 ^ 62)
def rng1 : List D → Option (List D)
  | [.int j] => if okR j = true then some (rngD 0 j.toNat) else none
  | _ => none
def rng2 : List D → Option (List D)
  | [.int i, .int j] => if okR i = true ∧ okR j = true then some (rngD i (j - i).toNat) else none
  | _ => none
theorem rng1_some {ds items : List D} (h : rng1 ds = some items) : ∃ j : Int, ds = [.int j] ∧ (-2 ^ 62 ≤ j ∧ j < 2 ^ 62) ∧ items = rngD 0 j.toNat := by
  unfold rng1 at h
  split at h
  · split at h
    · rename_i hj
      cases h
      exact ⟨_, rfl, of_decide_eq_true hj, rfl⟩
    · cases h
  · cases h
theorem rng2_some {ds items : List D} (h : rng2 ds = some items) : ∃ i j : Int, ds = [.int i, .int j] ∧ (-2 ^ 62 ≤ i ∧ i < 2 ^ 62 ∧ -2 ^ 62 ≤ j ∧ j < 2 ^ 62) ∧ items = rngD i (j - i).toNat := by
  unfold rng2 at h
  split at h
  · split at h
    · rename_i hj
      cases h
      have h1 := of_decide_eq_true hj.1
      have h2 := of_decide_eq_true hj.2
      exact ⟨_, _, rfl, ⟨h1.1, h1.2, h2.1, h2.2⟩, rfl⟩
    · cases h
  · cases h
def forR (ms : M (List D)) (rng : List D → Option (List D)) (asg : D → S → Option S) (m : MS) : MS := fun s => (ms s).bind fun q => (rng q.1).bind fun ds => loopM asg m ds q.2
theorem s_for1 {ms : M (List D)} {p3 : Pos} (hi : LA X [a] ms) (hr : Gl X "range") (hm : X.mg "range" = none) (hg : PG X tg g) (hf : TGk X.K X.mg pr g asg) (hb : SEs X pr sts m) (hc : X.calm = true) (hp : PassesOwn (model X.prog X.w) X.A X.env X.xe) (hs : starEach [a] X.env = [(false, eval a X.env)] := by rfl) : SE X pr (.For tg (.Call (.Name "range" p) [a] [] p3) sts [] pos) (forR ms rng1 asg m) := PS.imp (ps_for hp hc (pi_range1 hr hm hi hs) hg hb) fun D σ H ⟨sd, W, out, st, em, q⟩ => by
  simp only [forR, Option.bind_eq_some_iff] at em
  obtain ⟨⟨d, s1⟩, e1, ds, e2, em⟩ := em
  obtain ⟨j, hd, hj, hi⟩ := rng1_some e2
  subst hd hi
  refine ⟨sd, W, _, s1, st, e1, fun v H1 W1 st1 k1 r1 => ?_⟩
  cases r1 with
  | cons r1 r2 =>
    cases r1; cases r2
    refine ⟨j, rfl, hj.1, hj.2, for_range (lo := 0) (n := j.toNat) (Turn X.K X.mg pr s1 σ H1 W1 asg m (rngD 0 j.toNat) out) ⟨s1, W1, st1, Kp.refl, Pr.refl, em⟩ (fun i σ' H' hi t => ?_)
      fun σ' H' t => Turn.done (by unfold rngD; simp) (q.behind k1 Pr.refl) t⟩
    exact Turn.one hf (q.behind k1 Pr.refl) (rngD_get hi) t fun W' le => .int _
theorem s_for2 {ms : M (List D)} {p3 : Pos} (hi : LA X [a, b] ms) (hr : Gl X "range") (hm : X.mg "range" = none) (hg : PG X tg g) (hf : TGk X.K X.mg pr g asg) (hb : SEs X pr sts m) (hc : X.calm = true) (hp : PassesOwn (model X.prog X.w) X.A X.env X.xe) (hs : starEach [a, b] X.env = [(false, eval a X.env), (false, eval b X.env)] := by rfl) (hs2 : starEach [b] X.env = [(false, eval b X.env)] := by rfl) : SE X pr (.For tg (.Call (.Name "range" p) [a, b] [] p3) sts [] pos) (forR ms rng2 asg m) := PS.imp (ps_for hp hc (pi_range2 hr hm hi hs hs2) hg hb) fun D σ H ⟨sd, W, out, st, em, q⟩ => by
  simp only [forR, Option.bind_eq_some_iff] at em
  obtain ⟨⟨d, s1⟩, e1, ds, e2, em⟩ := em
  obtain ⟨i, j, hd, hj, hi⟩ := rng2_some e2
  subst hd hi
  refine ⟨sd, W, _, s1, st, e1, fun v H1 W1 st1 k1 r1 => ?_⟩
  cases r1 with
  | cons r1 r2 =>
    cases r2 with
    | cons r2 r3 =>
      cases r1; cases r2; cases r3
      refine ⟨i, j, rfl, hj, for_range (lo := i) (n := (j - i).toNat) (Turn X.K X.mg pr s1 σ H1 W1 asg m (rngD i (j - i).toNat) out) ⟨s1, W1, st1, Kp.refl, Pr.refl, em⟩ (fun i' σ' H' hi t => ?_)
        fun σ' H' t => Turn.done (by unfold rngD; simp) (q.behind k1 Pr.refl) t⟩
      exact Turn.one hf (q.behind k1 Pr.refl) (rngD_get hi) t fun W' le => .int _
end
end Fli
set_option Elab.async false
set_option linter.all false
set_option maxRecDepth 100000
set_option maxHeartbeats 4000000
namespace Fli
open PySem L2
variable [HW]

/-! comprehensions -/
theorem wipe_get (σ : L2.St) (j : Nat) : ∀ vs : List Nat, (wipe σ vs)[j]? = if j ∈ vs then (σ[j]?).map (fun _ => (none : Option V)) else σ[j]?
  | [] => by simp [wipe]
  | v :: vs => by
    unfold wipe
    by_cases h : v = j
    · subst h
      rw [if_pos (by simp)]
      by_cases l : v < σ.length
      · rw [List.getElem?_set_self (by rw [wipe_length]; exact l), List.getElem?_eq_getElem l]; rfl
      · rw [List.getElem?_eq_none (by rw [List.length_set, wipe_length]; omega), List.getElem?_eq_none (by omega)]; rfl
    · rw [List.getElem?_set_ne h, wipe_get σ j vs]
      by_cases q : j ∈ vs
      · rw [if_pos q, if_pos (by simp [q])]
      · rw [if_neg q, if_neg (by simp [q]; exact fun z => h z.symm)]
theorem wipe_eq {σ σ' : L2.St} {vs : List Nat} (h : ∀ j, j ∉ vs → σ[j]? = σ'[j]?) (l : σ.length = σ'.length) : wipe σ vs = wipe σ' vs := by
  refine List.ext_getElem? fun j => ?_
  rw [wipe_get, wipe_get]
  by_cases q : j ∈ vs
  · rw [if_pos q, if_pos q]
    by_cases z : j < σ.length
    · rw [List.getElem?_eq_getElem z, List.getElem?_eq_getElem (l ▸ z)]; rfl
    · rw [List.getElem?_eq_none (by omega), List.getElem?_eq_none (by omega)]
  · rw [if_neg q, if_neg q]; exact h j q
theorem wipe_set {σ : L2.St} {vs : List Nat} {i : Nat} {x : Option V} (h : i ∈ vs) : wipe (σ.set i x) vs = wipe σ vs :=
  wipe_eq (fun j hj => List.getElem?_set_ne fun z => hj (by rw [← z]; exact h)) (List.length_set ..)
theorem wipe_wipe {σ : L2.St} {vs : List Nat} : wipe (wipe σ vs) vs = wipe σ vs :=
  wipe_eq (fun j hj => by rw [wipe_get, if_neg hj]) (wipe_length _ _)
def wipeS (vs : List Nat) (s : S) : S := s.mapIdx fun j x => if j ∈ vs then none else x
def restS (s0 : S) (vs : List Nat) (s : S) : S := s.mapIdx fun j x => if j ∈ vs then (s0[j]?).join else x
def noOwn (vs : List Nat) (s : S) : Bool := vs.all fun j => match s[j]? with
  | some (some (.own _)) => false
  | _ => true
theorem wipeS_get {vs : List Nat} {s : S} {j : Nat} {a : A} : (wipeS vs s)[j]? = some (some a) ↔ j ∉ vs ∧ s[j]? = some (some a) := by
  unfold wipeS
  rw [List.getElem?_mapIdx]
  cases e : s[j]? with
  | none => simp
  | some x => by_cases h : j ∈ vs <;> simp [h]
theorem restS_get {vs : List Nat} {s0 s : S} {j : Nat} {a : A} (h : (restS s0 vs s)[j]? = some (some a)) : (j ∈ vs ∧ s0[j]? = some (some a)) ∨ (j ∉ vs ∧ s[j]? = some (some a)) := by
  unfold restS at h
  rw [List.getElem?_mapIdx] at h
  cases e : s[j]? with
  | none => rw [e] at h; simp at h
  | some x =>
    rw [e] at h
    by_cases q : j ∈ vs
    · simp only [q, if_pos, Option.map_some, Option.some.injEq] at h
      refine .inl ⟨q, ?_⟩
      cases z : s0[j]? with
      | none => rw [z] at h; cases h
      | some y => rw [z] at h; rw [show y = some a from h]
    · simp only [q, if_neg, not_false_iff, Option.map_some, Option.some.injEq] at h
      exact .inr ⟨q, by rw [← h]⟩
section
variable {K : PySem.W.Frag} {mg : Str → Option Value} {sd s0 : S} {σ : L2.St} {H H0 W W0 : Hp} {vs : List Nat}
theorem Own.wipe {a : Addr} (h : Own (wipeS vs sd) (L2.wipe σ vs) a) : Own sd σ a := by
  obtain ⟨i, o, e1, e2⟩ := h
  obtain ⟨q, e1⟩ := wipeS_get.mp e1
  rw [wipe_get, if_neg q] at e2
  exact ⟨i, o, e1, e2⟩
theorem St.wipe (st : St K mg sd σ H W) : St K mg (wipeS vs sd) (L2.wipe σ vs) H W where
  le := st.le
  len := by unfold wipeS; rw [List.length_mapIdx, wipe_length]; exact st.len
  dat := fun i d h => by
    obtain ⟨q, h⟩ := wipeS_get.mp h
    obtain ⟨v, e, r⟩ := st.dat i d h
    exact ⟨v, by rw [wipe_get, if_neg q]; exact e, r⟩
  own := fun i o h => by
    obtain ⟨q, h⟩ := wipeS_get.mp h
    obtain ⟨v, e, r⟩ := st.own i o h
    exact ⟨v, by rw [wipe_get, if_neg q]; exact e, r⟩
  inj := fun i j o u a h1 h2 e1 e2 => by
    obtain ⟨q1, h1⟩ := wipeS_get.mp h1
    obtain ⟨q2, h2⟩ := wipeS_get.mp h2
    rw [wipe_get, if_neg q1] at e1
    rw [wipe_get, if_neg q2] at e2
    exact st.inj i j o u a h1 h2 e1 e2
theorem noOwn_at {j : Nat} {o : O} (h : noOwn vs sd = true) (q : j ∈ vs) (e : sd[j]? = some (some (.own o))) : False := by
  have := List.all_eq_true.mp h j q
  rw [e] at this
  cases this
theorem St.rest (st : St K mg sd (L2.wipe σ vs) H W) (s0t : St K mg s0 σ H0 W0) (le : Le W0 W) (no : noOwn vs s0 = true) : St K mg (restS s0 vs sd) σ H W ∧ ∀ a, Own (restS s0 vs sd) σ a → Own sd (L2.wipe σ vs) a := by
  have back : ∀ {j : Nat} {o : O}, (restS s0 vs sd)[j]? = some (some (.own o)) → j ∉ vs ∧ sd[j]? = some (some (.own o)) := fun h => by
    rcases restS_get h with ⟨q, h⟩ | h
    · exact (noOwn_at no q h).elim
    · exact h
  refine ⟨⟨st.le, ?_, fun j d h => ?_, fun j o h => ?_, fun i j o u a h1 h2 e1 e2 => ?_⟩, fun a ⟨j, o, e1, e2⟩ => ?_⟩
  · unfold restS; rw [List.length_mapIdx, st.len, wipe_length]
  · rcases restS_get h with ⟨q, h⟩ | ⟨q, h⟩
    · obtain ⟨v, e, r⟩ := s0t.dat j d h
      exact ⟨v, e, r.le le⟩
    · obtain ⟨v, e, r⟩ := st.dat j d h
      rw [wipe_get, if_neg q] at e
      exact ⟨v, e, r⟩
  · obtain ⟨q, h⟩ := back h
    obtain ⟨v, e, r⟩ := st.own j o h
    rw [wipe_get, if_neg q] at e
    exact ⟨v, e, r⟩
  · obtain ⟨q1, h1⟩ := back h1
    obtain ⟨q2, h2⟩ := back h2
    exact st.inj i j o u a h1 h2 (by rw [wipe_get, if_neg q1]; exact e1) (by rw [wipe_get, if_neg q2]; exact e2)
  · obtain ⟨q, h⟩ := back e1
    exact ⟨j, o, h, by rw [wipe_get, if_neg q]; exact e2⟩
/-- an unseen object changes -/
theorem St.mut (st : St K mg sd σ H W) {p : Addr} {o : HO} (w : W p = none) (n : ¬ Own sd σ p) : St K mg sd σ (upd H p o) W where
  le := fun a u h => by rw [upd_ne (ne_of_none h w)]; exact st.le a u h
  len := st.len
  dat := st.dat
  own := fun i u h => by
    obtain ⟨a, e, w', r⟩ := st.own i u h
    have ne : a ≠ p := fun z => n ⟨i, u, h, z ▸ e⟩
    refine ⟨a, e, w', ?_⟩
    rw [upd_ne ne]; exact r
  inj := st.inj
end
/-- a target keeps to its slots -/
def TGw (vs : List Nat) (g : TG) : Prop := ∀ (x : V) (σ : L2.St) (H : Hp) (Q : L2.St → Hp → Prop), g x σ H (fun σ2 H2 => wipe σ2 vs = wipe σ vs → Q σ2 H2) → g x σ H fun σ2 H2 => wipe σ2 vs = wipe σ vs ∧ Q σ2 H2
theorem tw_name {vs : List Nat} {i : Nat} (h : i ∈ vs) : TGw vs (gName i) := fun x σ H Q q => ⟨wipe_set h, q (wipe_set h)⟩
theorem tw_tup2 {K : PySem.W.Frag} {vs : List Nat} {i j : Nat} (hi : i ∈ vs) (hj : j ∈ vs) : TGw vs (gTup K 2 (gCons (gName i) (gCons (gName j) gNil))) := fun x σ H Q q => by
  obtain ⟨a, xs, e, s, l, x1, r1, e1, x2, r2, e2, e3, q⟩ := q
  have z : wipe ((σ.set i (some x1)).set j (some x2)) vs = wipe σ vs := by rw [wipe_set hj, wipe_set hi]
  exact ⟨a, xs, e, s, l, x1, r1, e1, x2, r2, e2, e3, z, q z⟩
theorem tw_tup3 {K : PySem.W.Frag} {vs : List Nat} {i j k : Nat} (hi : i ∈ vs) (hj : j ∈ vs) (hk : k ∈ vs) : TGw vs (gTup K 3 (gCons (gName i) (gCons (gName j) (gCons (gName k) gNil)))) := fun x σ H Q q => by
  obtain ⟨a, xs, e, s, l, x1, r1, e1, x2, r2, e2, x3, r3, e3, e4, q⟩ := q
  have z : wipe (((σ.set i (some x1)).set j (some x2)).set k (some x3)) vs = wipe σ vs := by rw [wipe_set hk, wipe_set hj, wipe_set hi]
  exact ⟨a, xs, e, s, l, x1, r1, e1, x2, r2, e2, x3, r3, e3, e4, z, q z⟩

def compL (vs : List Nat) (asg : D → S → Option S) (c : M Bool) (elt : M D) : List D → List D → M (List D)
  | [], acc, s => some (acc, s)
  | d :: ds, acc, s => (asg d s).bind fun s1 => (c s1).bind fun p => match p.1 with
    | true => (elt p.2).bind fun y => if acc.length < sizeLine then compL vs asg c elt ds (acc ++ [y.1]) (wipeS vs y.2) else none
    | false => compL vs asg c elt ds acc (wipeS vs p.2)
def compM (vs : List Nat) (asg : D → S → Option S) (c : M Bool) (elt : M D) (items : List D) : M O := fun s => if noOwn vs s = true then (compL vs asg c elt items [] (wipeS vs s)).map fun r => (.lst r.1, restS s vs r.2) else none
section
variable {K : PySem.W.Frag} {mg : Str → Option Value} {sd : S} {σ : L2.St} {H W : Hp} {vs : List Nat} {g : TG} {asg : D → S → Option S} {c : M Bool} {elt : M D} {items : List D} {Dl : Addr}
def CT (K : PySem.W.Frag) (mg : Str → Option Value) (sd : S) (σ : L2.St) (H W : Hp) (vs : List Nat) (asg : D → S → Option S) (c : M Bool) (elt : M D) (items : List D) (r : List D × S) (Dl : Addr) (i : Nat) (H' : Hp) : Prop :=
  ∃ sd' W' acc av, St K mg sd' (wipe σ vs) H' W' ∧ Kp (wipeS vs sd) (wipe σ vs) H W sd' (wipe σ vs) H' W' ∧ W' Dl = none ∧ ¬ Own sd' (wipe σ vs) Dl ∧ H' Dl = some (.lst av) ∧ DRs K mg W' av acc ∧ compL vs asg c elt (items.drop i) acc sd' = some r
theorem CT.start {r : List D × S} (st : St K mg sd σ H W) (e : compL vs asg c elt items [] (wipeS vs sd) = some r) (hD : H Dl = none) : CT K mg sd σ H W vs asg c elt items r Dl 0 (upd H Dl (.lst [])) := by
  obtain ⟨g1, g2⟩ := (st.wipe (vs := vs)).newO hD (.lst [])
  exact ⟨_, W, [], [], g1, g2, st.free hD, fun z => st.notOwn hD z.wipe, upd_same, .nil, e⟩
theorem CT.turn {r : List D × S} {i : Nat} {x : V} {d : D} {H' : Hp} (hg : TGk K mg [] g asg) (hw : TGw vs g) (hd : items[i]? = some d) (hx : ∀ W', Le W W' → DR K mg W' x d) (hD : H Dl = none) (t : CT K mg sd σ H W vs asg c elt items r Dl i H') :
    g x (wipe σ vs) H' fun σ2 H2 => wipe σ2 vs = wipe σ vs ∧ tB K mg c σ2 H2 fun b H3 => if b = true then tD K mg elt σ2 H3 fun y H4 => ∃ acc, H4 Dl = some (HO.lst acc) ∧ acc.length < sizeLine ∧ CT K mg sd σ H W vs asg c elt items r Dl (i + 1) (upd H4 Dl (HO.lst (acc ++ [y])))
      else CT K mg sd σ H W vs asg c elt items r Dl (i + 1) H3 := by
  obtain ⟨sd', W', acc, av, st, k, w, n, hl, ra, em⟩ := t
  have hlt : i < items.length := (List.getElem?_eq_some_iff.mp hd).1
  have hd' : items[i] = d := (List.getElem?_eq_some_iff.mp hd).2
  rw [List.drop_eq_getElem_cons hlt, hd'] at em
  simp only [compL, Option.bind_eq_some_iff] at em
  obtain ⟨s1, e1, ⟨b, s2⟩, e2, em⟩ := em
  have ww : wipe (wipe σ vs) vs = wipe σ vs := wipe_wipe
  have := hw x (wipe σ vs) H' (fun σ2 H2 => tB K mg c σ2 H2 fun b H3 => if b = true then tD K mg elt σ2 H3 fun y H4 => ∃ acc, H4 Dl = some (HO.lst acc) ∧ acc.length < sizeLine ∧ CT K mg sd σ H W vs asg c elt items r Dl (i + 1) (upd H4 Dl (HO.lst (acc ++ [y])))
      else CT K mg sd σ H W vs asg c elt items r Dl (i + 1) H3) (hg x d sd' s1 (wipe σ vs) H' W' st (hx W' k.le) e1 _ fun σ1 H1 W1 st1 k1 _ hz => ?_)
  · rw [ww] at this; exact this
  rw [ww] at hz
  have kk : Kp (wipeS vs sd) (wipe σ vs) H W s1 σ1 H1 W1 := k.trans k1
  refine ⟨s1, W1, b, s2, st1, e2, fun H2 W2 st2 k2 => ?_⟩
  have keep : ∀ {s3 : S} {H3 W3 : Hp}, Kp sd' (wipe σ vs) H' W' s3 σ1 H3 W3 → H3 Dl = some (.lst av) ∧ W3 Dl = none ∧ ¬ Own s3 σ1 Dl := fun q =>
    ⟨q.keep Dl _ hl n, q.new Dl w (by rw [hl]; simp) n, fun z => (q.own Dl z).elim n fun z => by rw [hl] at z; cases z⟩
  have wk : ∀ {s3 : S} {H3 W3 : Hp}, Kp (wipeS vs sd) (wipe σ vs) H W s3 σ1 H3 W3 → Kp (wipeS vs sd) (wipe σ vs) H W (wipeS vs s3) (wipe σ vs) H3 W3 := fun q =>
    ⟨q.le, q.keep, q.new, fun a z => q.own a (by rw [← hz] at z; exact z.wipe), q.there⟩
  cases b with
  | false =>
    refine iteF ?_
    obtain ⟨a1, a2, a3⟩ := keep (k1.trans k2)
    refine ⟨wipeS vs s2, W2, acc, av, by rw [← hz]; exact st2.wipe, wk (kk.trans k2), a2, fun z => a3 (by rw [← hz] at z; exact z.wipe), a1, ra.le (k1.le.trans k2.le), em⟩
  | true =>
    refine iteT ?_
    simp only [Option.bind_eq_some_iff] at em
    obtain ⟨⟨y, s3⟩, e3, em⟩ := em
    split at em
    · rename_i hsz
      refine ⟨s2, W2, y, s3, st2, e3, fun v H3 W3 st3 k3 r3 => ?_⟩
      obtain ⟨a1, a2, a3⟩ := keep ((k1.trans k2).trans k3)
      have k4 := (kk.trans k2).trans k3
      refine ⟨av, a1, by rw [ra.len]; exact hsz, wipeS vs s3, W3, acc ++ [y], av ++ [v], by rw [← hz]; exact (st3.mut a2 a3).wipe, wk ?_, a2, fun z => a3 (by rw [← hz] at z; exact z.wipe), upd_same, (ra.le ((k1.le.trans k2.le).trans k3.le)).app (.cons r3 .nil), em⟩
      exact ⟨k4.le, fun a o h q => by rw [upd_ne (ne_of_none h hD)]; exact k4.keep a o h q, k4.new, k4.own, fun a h => by
        by_cases z : a = Dl
        · rw [z, upd_same]; simp
        · rw [upd_ne z]; exact k4.there a h⟩
    · cases em
theorem CT.done {r : List D × S} {H' : Hp} {n : Nat} (hn : items.length ≤ n) (st : St K mg sd σ H W) (no : noOwn vs sd = true) (t : CT K mg sd σ H W vs asg c elt items r Dl n H') (hD : H Dl = none) :
    ∃ W', St K mg (restS sd vs r.2) σ H' W' ∧ Kp sd σ H W (restS sd vs r.2) σ H' W' ∧ OR K mg H' W' Dl (.lst r.1) ∧ ¬ Own (restS sd vs r.2) σ Dl := by
  obtain ⟨sd', W', acc, av, st', k, w, n', hl, ra, em⟩ := t
  rw [List.drop_eq_nil_of_le hn] at em
  cases em
  obtain ⟨g1, g2⟩ := st'.rest st k.le no
  refine ⟨W', g1, ⟨k.le, fun a o h q => k.keep a o h fun z => q z.wipe, fun a h h' q => k.new a h h' fun z => q z.wipe, fun a h => (k.own a (g2 a h)).imp (fun z => z.wipe) id, k.there⟩, ⟨w, av, hl, ra⟩, fun z => n' (g2 _ z)⟩
end

section
variable {X : Cx} {e elt tg a b : Expr} {ifs : List Expr} {scope : Scope} {own : List (Str × Nat)} {pos p : Pos} {g : TG} {asg : D → S → Option S} {m : M D} {c : M Bool}
/-- the tests of a comprehension: none, one -/
abbrev PTB (X : Cx) (ifs : List Expr) (c : M Bool) : Prop := PTs X ifs (tB X.K X.mg c)
theorem pts_0 : PTB X [] (retM true) := ⟨fun pins s σ H Q I ⟨sd, W, k, sd', st, em, q⟩ => by
  cases em
  exact (pts_nil (X := X)).run pins s σ H Q I (q H W st Kp.refl)⟩
theorem pts_1 {t : Expr} (h : BT X t c) : PTB X [t] c := pts_one h
def cplL (mi : M D) (vs : List Nat) (asg : D → S → Option S) (c : M Bool) (elt : M D) : M O := fun s => (mi s).bind fun q => (itD q.1).bind fun ds => compM vs asg c elt ds q.2
def cplR (ms : M (List D)) (rng : List D → Option (List D)) (vs : List Nat) (asg : D → S → Option S) (c : M Bool) (elt : M D) : M O := fun s => (ms s).bind fun q => (rng q.1).bind fun ds => compM vs asg c elt ds q.2
theorem compM_some {vs : List Nat} {elt : M D} {items : List D} {s s' : S} {o : O} (h : compM vs asg c elt items s = some (o, s')) : noOwn vs s = true ∧ ∃ r, compL vs asg c elt items [] (wipeS vs s) = some r ∧ o = .lst r.1 ∧ s' = restS s vs r.2 := by
  unfold compM at h
  split at h
  · simp only [Option.map_eq_some_iff] at h
    obtain ⟨r, h, e⟩ := h
    cases e
    exact ⟨by assumption, r, h, rfl, rfl⟩
  · cases h
/-- what a comprehension over a list | a tuple | a range asks -/
theorem t_cplL {K : PySem.W.Frag} {mg : Str → Option Value} {mi : M D} {vs : List Nat} {el : M D} (hf : TGk K mg [] g asg) (hw : TGw vs g) {σ : L2.St} {H : Hp} {Q : VK} (h : tO K mg (cplL mi vs asg c el) σ H Q) :
    tLc (iList K (tD K mg mi)) g (tB K mg c) (tD K mg el) vs σ H Q ∨ tLc (iTup K (tD K mg mi)) g (tB K mg c) (tD K mg el) vs σ H Q ∨ tLc (iStr (tD K mg mi)) g (tB K mg c) (tD K mg el) vs σ H Q := by
  obtain ⟨sd, W, o, sd', st, em, q⟩ := h
  simp only [cplL, Option.bind_eq_some_iff] at em
  obtain ⟨⟨d, s1⟩, e1, ds, e2, em⟩ := em
  obtain ⟨no, r, e3, rfl, rfl⟩ := compM_some em
  cases d with
  | lst es =>
    cases e2
    refine .inl ⟨sd, W, _, s1, st, e1, fun v H1 W1 st1 k1 r1 => ?_⟩
    cases r1 with
    | @lst a vs' _ sa ra =>
      refine ⟨a, rfl, ⟨vs', .inl (.inl (st1.le _ _ sa))⟩, fun Dl hD => lc_list (K := K) (a := a) (xs := vs') (CT K mg s1 σ H1 W1 vs asg c el ds r Dl) (CT.start st1 e3 hD) (fun i H' _ ⟨sd', W', _, _, st', k', _⟩ => .inl (.inl (st'.le _ _ (k'.le _ _ sa)))) (fun i x H' hx t => ?_) fun H' t => ?_⟩
      · obtain ⟨d, hd, rd⟩ := ra.get' hx
        exact CT.turn hf hw hd (fun W' le => rd.le le) hD t
      · obtain ⟨W', g1, g2, g3, g4⟩ := CT.done (by rw [ra.len]; exact Nat.le_refl _) st1 no t hD
        exact q Dl H' W' g1 (k1.trans g2) g3 g4 (k1.fresh hD)
  | tup es =>
    cases e2
    refine .inr (.inl ⟨sd, W, _, s1, st, e1, fun v H1 W1 st1 k1 r1 => ?_⟩)
    cases r1 with
    | @tup a vs' _ sa ra =>
      refine ⟨a, rfl, ⟨vs', st_le st1.le sa⟩, fun Dl hD => lc_tup (K := K) (a := a) (xs := vs') (CT K mg s1 σ H1 W1 vs asg c el ds r Dl) (CT.start st1 e3 hD) (fun i H' _ ⟨sd', W', _, _, st', k', _⟩ => st_le (k'.le.trans st'.le) sa) (fun i x H' hx t => ?_) fun H' t => ?_⟩
      · obtain ⟨d, hd, rd⟩ := ra.get' hx
        exact CT.turn hf hw hd (fun W' le => rd.le le) hD t
      · obtain ⟨W', g1, g2, g3, g4⟩ := CT.done (by rw [ra.len]; exact Nat.le_refl _) st1 no t hD
        exact q Dl H' W' g1 (k1.trans g2) g3 g4 (k1.fresh hD)
  | str z =>
    cases e2
    refine .inr (.inr ⟨sd, W, _, s1, st, e1, fun v H1 W1 st1 k1 r1 => ?_⟩)
    cases r1
    refine ⟨z, rfl, fun Dl hD => ⟨fun i m' H' => CT K mg s1 σ H1 W1 vs asg c el (z.cps.toList.map fun c => .str ⟨#[c]⟩) r Dl i H' ∧ m' + i = z.cps.size, ⟨z.cps.size, CT.start st1 e3 hD, rfl⟩, ?_⟩⟩
    rintro i m' H' ⟨t, hm'⟩
    by_cases hi : i < z.cps.size
    · refine .inr ⟨hi, fun H2 => CT K mg s1 σ H1 W1 vs asg c el (z.cps.toList.map fun c => .str ⟨#[c]⟩) r Dl (i + 1) H2, fun H2 n => ⟨m' - 1, by omega, n, by omega⟩, ?_⟩
      rintro x H2 ⟨rfl, ch, hc, rfl⟩
      exact CT.turn hf hw (str_it hc) (fun W' le => .str _) hD t
    · refine .inl ⟨by show z.cps.size ≤ i; omega, ?_⟩
      obtain ⟨W', g1, g2, g3, g4⟩ := CT.done (by simp; omega) st1 no t hD
      exact q Dl H' W' g1 (k1.trans g2) g3 g4 (k1.fresh hD)
  | _ => cases e2
theorem t_cpl1 {K : PySem.W.Frag} {mg : Str → Option Value} {ms : M (List D)} {vs : List Nat} {el : M D} (hf : TGk K mg [] g asg) (hw : TGw vs g) {σ : L2.St} {H : Hp} {Q : VK} (h : tO K mg (cplR ms rng1 vs asg c el) σ H Q) :
    tLc (iRng1 (tL K mg ms)) g (tB K mg c) (tD K mg el) vs σ H Q := by
  obtain ⟨sd, W, o, sd', st, em, q⟩ := h
  simp only [cplR, Option.bind_eq_some_iff] at em
  obtain ⟨⟨d, s1⟩, e1, ds, e2, em⟩ := em
  obtain ⟨no, r, e3, rfl, rfl⟩ := compM_some em
  obtain ⟨j, hd, hj, hi⟩ := rng1_some e2
  subst hd hi
  refine ⟨sd, W, _, s1, st, e1, fun v H1 W1 st1 k1 r1 => ?_⟩
  cases r1 with
  | cons r1 r2 =>
    cases r1; cases r2
    refine ⟨j, rfl, hj.1, hj.2, fun Dl hD => lc_range (lo := 0) (n := j.toNat) (CT K mg s1 σ H1 W1 vs asg c el (rngD 0 j.toNat) r Dl) (CT.start st1 e3 hD) (fun i H' hi t => CT.turn hf hw (rngD_get hi) (fun W' le => .int _) hD t) fun H' t => ?_⟩
    obtain ⟨W', g1, g2, g3, g4⟩ := CT.done (by unfold rngD; simp) st1 no t hD
    exact q Dl H' W' g1 (k1.trans g2) g3 g4 (k1.fresh hD)
theorem o_lcL {mi : M D} {own : List (Str × Nat)} {vs : List Nat} (hvs : own.map (fun x => x.2) = vs) (hc : X.calm = true) (hN : X.N.Nodup) (hi : DE X e mi) (ok : BlkOk X.N X.env.scope scope own)
    (hg : ∀ (s : Shared) (H : Hp) (C : Addr) (cl : List (Str × Addr)) (fp : List Addr), PG (X.blk s H scope (compEnvC scope cl C X.env) fp) tg g) (hf : TGk X.K X.mg [] g asg) (hw : TGw vs g)
    (ht : ∀ (s : Shared) (H : Hp) (C : Addr) (cl : List (Str × Addr)) (fp : List Addr), PTs (X.blk s H scope (compEnvC scope cl C X.env) fp) ifs (tB X.K X.mg c))
    (he : ∀ (s : Shared) (H : Hp) (C : Addr) (cl : List (Str × Addr)) (fp : List Addr), PE (X.blk s H scope (compEnvC scope cl C X.env) fp) elt (tD X.K X.mg m)) (hfs : ∀ (x : Value), foldedSetIterable e X.env x = pure x := by intro _; rfl) :
    OE X (.ListComp elt [⟨tg, e, ifs, 0⟩] scope pos) (cplL mi vs asg c m) := by
  subst hvs
  have h1 := pe_lc (pos := pos) hc hN (pi_list (tg := tg) hi) ok hg ht he hfs
  have h2 := pe_lc (pos := pos) hc hN (pi_tup (tg := tg) hi) ok hg ht he hfs
  have h3 := pe_lc (pos := pos) hc hN (pi_str (tg := tg) hi) ok hg ht he hfs
  refine ⟨fun pins s σ H Q I h => ?_⟩
  rcases t_cplL hf hw h with h | h | h
  · exact h1.run pins s σ H Q I h
  · exact h2.run pins s σ H Q I h
  · exact h3.run pins s σ H Q I h
theorem o_lc1 {ms : M (List D)} {own : List (Str × Nat)} {vs : List Nat} {p3 : Pos} (hvs : own.map (fun x => x.2) = vs) (hc : X.calm = true) (hN : X.N.Nodup) (hi : LA X [a] ms) (hr : Gl X "range") (hm : X.mg "range" = none) (ok : BlkOk X.N X.env.scope scope own)
    (hg : ∀ (s : Shared) (H : Hp) (C : Addr) (cl : List (Str × Addr)) (fp : List Addr), PG (X.blk s H scope (compEnvC scope cl C X.env) fp) tg g) (hf : TGk X.K X.mg [] g asg) (hw : TGw vs g)
    (ht : ∀ (s : Shared) (H : Hp) (C : Addr) (cl : List (Str × Addr)) (fp : List Addr), PTs (X.blk s H scope (compEnvC scope cl C X.env) fp) ifs (tB X.K X.mg c))
    (he : ∀ (s : Shared) (H : Hp) (C : Addr) (cl : List (Str × Addr)) (fp : List Addr), PE (X.blk s H scope (compEnvC scope cl C X.env) fp) elt (tD X.K X.mg m)) (hs : starEach [a] X.env = [(false, eval a X.env)] := by rfl) :
    OE X (.ListComp elt [⟨tg, .Call (.Name "range" p) [a] [] p3, ifs, 0⟩] scope pos) (cplR ms rng1 vs asg c m) := by
  subst hvs
  exact PE.imp (pe_lc hc hN (pi_range1 hr hm hi hs) ok hg ht he) fun _ _ _ h => t_cpl1 hf hw h
end
end Fli
set_option Elab.async false
set_option linter.all false
set_option maxRecDepth 100000
set_option maxHeartbeats 4000000
namespace Fli
open PySem L2
variable [HW]

/-! defs: the promise is the body's mirror, run at the arguments -/
def startS (n : Nat) (as : List A) : S := as.map some ++ List.replicate (n - as.length) none
def callR (n : Nat) (body : MS) (as : List A) : Option Out := body (startS n as)
def endsOf (Q : VK) : Ends := { nx := fun _ H' => Q .non H', rt := Q }
def spM (K : PySem.W.Frag) (mg : Str → Option Value) (N ps : List Str) (pr : List Nat) (body : MS) : Sp := fun vs H Q _ => vs.length = ps.length ∧ tM K mg pr body (endsOf Q) (L2.start N vs) H
section
variable {P : Program} {w : World} {K : PySem.W.Frag} {mg : Str → Option Value} {base : Heap}
theorem def_ok {x qual : Str} {st : Stmt} {f : Addr} {fd : FuncData} {N ps : List Str} {k : Nat} {pr : List Nat} {body : MS} (F : Fun K x qual st f fd) (Sc : FnScope N ps (defScope st))
    (hb : ∀ (cdv : Value) (A : Around) (outer : List Env) (s : Shared) (H : Hp) (E : XK), Room k (A.deeper (PyProof.Rows.envOfC qual (defScope st) s.heap.objs.size f cdv)) → SEs (cxOf CX0 P w K mg base N qual (defScope st) f cdv A outer s H E).nox pr (defBody st) body) :
    FnOk P w K mg base CX0 (k + 1) f fd ps (spM K mg N ps pr body) :=
  F.ok Sc (fun vs H Q E h => h.1) fun cdv A outer s H vs Q E hr h => ⟨_, hb cdv A outer s H E hr, h.2⟩
end
section
variable {K : PySem.W.Frag} {mg : Str → Option Value} {sd sd' : S} {σ σ' : L2.St} {H H' W W' : Hp}
theorem startS_get {n : Nat} {as : List A} {i : Nat} {a : A} (h : (startS n as)[i]? = some (some a)) : as[i]? = some a := by
  unfold startS at h
  by_cases l : i < as.length
  · rw [List.getElem?_append_left (by rw [List.length_map]; exact l), List.getElem?_map] at h
    cases e : as[i]? with
    | none => rw [e] at h; cases h
    | some b => rw [e] at h; cases h; rfl
  · rw [List.getElem?_append_right (by rw [List.length_map]; omega), List.getElem?_replicate] at h
    split at h <;> cases h
theorem start_get {N : List Str} {vs : List V} {i : Nat} {v : V} (h : vs[i]? = some v) : (L2.start N vs)[i]? = some (some v) := by
  unfold L2.start
  have l := (List.getElem?_eq_some_iff.mp h).1
  rw [List.getElem?_append_left (by rw [List.length_map]; exact l), List.getElem?_map, h]; rfl
theorem startS_len {n : Nat} {as : List A} {N : List Str} {vs : List V} (hn : N.length = n) (h : vs.length = as.length) : (startS n as).length = (L2.start N vs).length := by
  unfold startS L2.start
  simp [h, hn]
theorem map_d_own {ds : List D} {i : Nat} {o : O} (h : (ds.map A.d)[i]? = some (.own o)) : False := by
  rw [List.getElem?_map] at h
  cases e : ds[i]? with
  | none => rw [e] at h; cases h
  | some b => rw [e] at h; cases h
/-- a callee that gets data alone -/
theorem St.call {N : List Str} {n : Nat} {vs : List V} {ds : List D} (st : St K mg sd σ H W) (hn : N.length = n) (r : DRs K mg W vs ds) : St K mg (startS n (ds.map .d)) (L2.start N vs) H W where
  le := st.le
  len := startS_len hn (by rw [r.len, List.length_map])
  dat := fun i d h => by
    have h := startS_get h
    rw [List.getElem?_map] at h
    cases e : ds[i]? with
    | none => rw [e] at h; cases h
    | some b =>
      rw [e] at h; cases h
      obtain ⟨v, e1, r1⟩ := r.get e
      exact ⟨v, start_get e1, r1⟩
  own := fun i o h => (map_d_own (startS_get h)).elim
  inj := fun i j o u a h1 _ _ _ => (map_d_own (startS_get h1)).elim
theorem noown_start {n : Nat} {ds : List D} {a : Addr} : ¬ Own (startS n (ds.map .d)) σ a := fun ⟨i, o, h, _⟩ => map_d_own (startS_get h)
/-- behind a call that was lent nothing -/
theorem St.after {sc : S} {σc : L2.St} {s2 : S} {σ2 : L2.St} (st : St K mg sd σ H W) (k : Kp sc σc H W s2 σ2 H' W') (st2 : St K mg s2 σ2 H' W') (no : ∀ a, ¬ Own sc σc a) : St K mg sd σ H' W' ∧ Kp sd σ H W sd σ H' W' :=
  st.grow k.le st2.le (fun a o h => k.keep a o h (no a)) fun a h h' => k.new a h h' (no a)
end

section
variable {X : Cx} {k n : Nat} {f : Addr} {fd : FuncData} {N ps : List Str} {pr : List Nat} {body : MS} {dvs : List V} {dd : List D} {ds : List Value} {x : Str} {p pos p2 : Pos} {e : Expr} {es : List Expr} {ms : M (List D)}
def callD (n : Nat) (body : MS) (ms : M (List D)) (dd : List D) : M D := fun s => (ms s).bind fun q => (callR n body ((q.1 ++ dd).map .d)).bind fun o => match o with
  | .rd d _ => some (d, q.2)
  | .nx _ => some (.non, q.2)
  | _ => none
def callO (n : Nat) (body : MS) (ms : M (List D)) (dd : List D) : M O := fun s => (ms s).bind fun q => (callR n body ((q.1 ++ dd).map .d)).bind fun o => match o with
  | .ro o _ => some (o, q.2)
  | _ => none
theorem t_callD {K : PySem.W.Frag} {mg : Str → Option Value} {E : XK} (hn : N.length = n) (hl : ∀ (q : List D) (s s' : S), ms s = some (q, s') → (q ++ dd).length = ps.length) (hd : ∀ W, DRs K mg W dvs dd) {σ : L2.St} {H : Hp} {Q : VK} (h : tD K mg (callD n body ms dd) σ H Q) : tCall (spM K mg N ps [] body) dvs E (tL K mg ms) σ H Q := by
  obtain ⟨sd, W, d, sd', st, em, q⟩ := h
  simp only [callD, Option.bind_eq_some_iff] at em
  obtain ⟨⟨xs, s1⟩, e1, o, e2, em⟩ := em
  refine ⟨sd, W, xs, s1, st, e1, fun vs H1 W1 st1 k1 r1 => ?_⟩
  have r2 := r1.app (hd W1)
  refine ⟨by rw [r2.len]; exact hl _ _ _ e1, startS n ((xs ++ dd).map .d), W1, o, st1.call hn r2, e2, ?_⟩
  cases o with
  | rd d' s2 =>
    cases em
    intro v σ2 H2 W2 st2 k2 _ r
    obtain ⟨g1, g2⟩ := st1.after k2 st2 fun a => noown_start
    exact q v H2 W2 g1 (k1.trans g2) r
  | nx s2 =>
    cases em
    intro σ2 H2 W2 st2 k2 _
    obtain ⟨g1, g2⟩ := st1.after k2 st2 fun a => noown_start
    exact q _ H2 W2 g1 (k1.trans g2) .non
  | _ => cases em
theorem t_callO {K : PySem.W.Frag} {mg : Str → Option Value} {E : XK} (hn : N.length = n) (hl : ∀ (q : List D) (s s' : S), ms s = some (q, s') → (q ++ dd).length = ps.length) (hd : ∀ W, DRs K mg W dvs dd) {σ : L2.St} {H : Hp} {Q : VK} (h : tO K mg (callO n body ms dd) σ H Q) : tCall (spM K mg N ps [] body) dvs E (tL K mg ms) σ H Q := by
  obtain ⟨sd, W, d, sd', st, em, q⟩ := h
  simp only [callO, Option.bind_eq_some_iff] at em
  obtain ⟨⟨xs, s1⟩, e1, o, e2, em⟩ := em
  refine ⟨sd, W, xs, s1, st, e1, fun vs H1 W1 st1 k1 r1 => ?_⟩
  have r2 := r1.app (hd W1)
  refine ⟨by rw [r2.len]; exact hl _ _ _ e1, startS n ((xs ++ dd).map .d), W1, o, st1.call hn r2, e2, ?_⟩
  cases o with
  | ro o' s2 =>
    cases em
    intro p σ2 H2 W2 st2 k2 _ r nn hf
    have hp : H1 p = none := hf.elim id fun z => (noown_start z.1).elim
    obtain ⟨g1, g2⟩ := st1.after k2 st2 fun a => noown_start
    exact q p H2 W2 g1 (k1.trans g2) r (fun z => (g2.own p z).elim (fun z => st1.notOwn hp z) fun _ => st1.notOwn hp z) (k1.fresh hp)
  | _ => cases em
/-- the length of an argument list -/
def LenIs (ms : M (List D)) (n : Nat) : Prop := ∀ (q : List D) (s s' : S), ms s = some (q, s') → q.length = n
theorem len_nil : LenIs (retM []) 0 := fun q s s' h => by cases h; rfl
theorem len_cons {m : M D} {ms : M (List D)} {n : Nat} (h : LenIs ms n) : LenIs (bindM m fun d => bindM ms fun ds => retM (d :: ds)) (n + 1) := fun q s s' e => by
  obtain ⟨x, s1, e1, em⟩ := bindM_some e
  obtain ⟨xs, s2, e2, em⟩ := bindM_some em
  cases em
  simp [h _ _ _ e2]
theorem e_call {j : Nat} (F : FnOk X.prog X.w X.K X.mg X.base CX0 k f fd ps (spM X.K X.mg N ps [] body)) (hr : Room k X.A) (hg : Gl X x) (hm : X.mg x = some (.ref f)) (hk : PySem.W.keepIn X.K (.ref f) = true) (hb : Binds X.K fd ps ds) (hd : Vals dvs ds)
    (hdd : ∀ W, DRs X.K X.mg W dvs dd) (hn : N.length = n) (hs : LA X (e :: es) ms) (hl : LenIs ms j) (hj : j + dd.length = ps.length) (hdb : (x == ("__debug__" : Str)) = false := by decide) (he : starEach (e :: es) X.env = (false, eval e X.env) :: starEach es X.env := by rfl) (hpl : (backTo pos (starEach es X.env)).any (·.1) = false := by rfl) :
    DE X (.Call (.Name x p) (e :: es) [] pos) (callD n body ms dd) := PE.imp (pe_call F hr hg hm hk hb hd pass0 hs hdb he hpl) fun σ H Q h => t_callD (E := E0) hn (fun q s s' z => by rw [List.length_append, hl q s s' z]; exact hj) hdd h
theorem o_call {j : Nat} (F : FnOk X.prog X.w X.K X.mg X.base CX0 k f fd ps (spM X.K X.mg N ps [] body)) (hr : Room k X.A) (hg : Gl X x) (hm : X.mg x = some (.ref f)) (hk : PySem.W.keepIn X.K (.ref f) = true) (hb : Binds X.K fd ps ds) (hd : Vals dvs ds)
    (hdd : ∀ W, DRs X.K X.mg W dvs dd) (hn : N.length = n) (hs : LA X (e :: es) ms) (hl : LenIs ms j) (hj : j + dd.length = ps.length) (hdb : (x == ("__debug__" : Str)) = false := by decide) (he : starEach (e :: es) X.env = (false, eval e X.env) :: starEach es X.env := by rfl) (hpl : (backTo pos (starEach es X.env)).any (·.1) = false := by rfl) :
    OE X (.Call (.Name x p) (e :: es) [] pos) (callO n body ms dd) := PE.imp (pe_call F hr hg hm hk hb hd pass0 hs hdb he hpl) fun σ H Q h => t_callO (E := E0) hn (fun q s s' z => by rw [List.length_append, hl q s s' z]; exact hj) hdd h
end

/-! a first argument that is lent: a slot's own list, changed by the callee -/
section
variable {K : PySem.W.Frag} {mg : Str → Option Value} {sd : S} {σ : L2.St} {H H' W W' : Hp}
theorem lent_get {n : Nat} {o : O} {ds : List D} {i : Nat} {a : A} (h : (startS n (.own o :: ds.map .d))[i]? = some (some a)) : (i = 0 ∧ a = .own o) ∨ ∃ j d, i = j + 1 ∧ ds[j]? = some d ∧ a = .d d := by
  have h := startS_get h
  cases i with
  | zero => cases h; exact .inl ⟨rfl, rfl⟩
  | succ j =>
    rw [List.getElem?_cons_succ, List.getElem?_map] at h
    cases e : ds[j]? with
    | none => rw [e] at h; cases h
    | some b => rw [e] at h; cases h; exact .inr ⟨j, b, rfl, e, rfl⟩
theorem St.lend {N : List Str} {n : Nat} {vs : List V} {ds : List D} {a : Addr} {o : O} (st : St K mg sd σ H W) (hn : N.length = n) (r : DRs K mg W vs ds) (ro : OR K mg H W a o) :
    St K mg (startS n (.own o :: ds.map .d)) (L2.start N (.ref a :: vs)) H W ∧ ∀ b, Own (startS n (.own o :: ds.map .d)) (L2.start N (.ref a :: vs)) b → b = a := by
  have s0 : (L2.start N (.ref a :: vs))[0]? = some (some (.ref a)) := start_get rfl
  refine ⟨⟨st.le, startS_len hn (by simp [r.len]), fun i d h => ?_, fun i u h => ?_, fun i j u w b h1 h2 _ _ => ?_⟩, fun b ⟨i, u, h, e⟩ => ?_⟩
  · rcases lent_get h with ⟨_, h⟩ | ⟨j, d', rfl, h, e⟩
    · cases h
    · cases e
      obtain ⟨v, e1, r1⟩ := r.get h
      exact ⟨v, start_get (by simpa using e1), r1⟩
  · rcases lent_get h with ⟨rfl, h⟩ | ⟨j, d', rfl, h, e⟩
    · cases h; exact ⟨a, s0, ro⟩
    · cases e
  · rcases lent_get h1 with ⟨rfl, _⟩ | ⟨_, _, _, _, e⟩
    · rcases lent_get h2 with ⟨rfl, _⟩ | ⟨_, _, _, _, e⟩
      · rfl
      · cases e
    · cases e
  · rcases lent_get h with ⟨rfl, _⟩ | ⟨_, _, _, _, z⟩
    · rw [s0] at e; cases e; rfl
    · cases z
/-- behind such a call -/
theorem St.back {sc : S} {σc : L2.St} {s2 : S} {σ2 : L2.St} {i : Nat} {a : Addr} {o o' : O} (st : St K mg sd σ H W) (e : sd[i]? = some (some (.own o))) (ea : σ[i]? = some (some (.ref a))) (k : Kp sc σc H W s2 σ2 H' W') (st2 : St K mg s2 σ2 H' W') (no : ∀ b, Own sc σc b → b = a) (ha : H a ≠ none) (r : OR K mg H' W' a o') :
    St K mg (sd.set i (some (.own o'))) σ H' W' ∧ Kp sd σ H W (sd.set i (some (.own o'))) σ H' W' := by
  have hi : i < sd.length := (List.getElem?_eq_some_iff.mp e).1
  have ow : Own sd σ a := ⟨i, o, e, ea⟩
  have back : ∀ (j : Nat) (u : O), (sd.set i (some (A.own o')))[j]? = some (some (A.own u)) → ∃ u', sd[j]? = some (some (A.own u')) := fun j u h => by
    by_cases z : i = j
    · subst z; exact ⟨o, e⟩
    · rw [List.getElem?_set_ne z] at h; exact ⟨u, h⟩
  have nn : ∀ b, b ≠ a → ¬ Own sc σc b := fun b z q => z (no b q)
  refine ⟨⟨st2.le, by rw [List.length_set]; exact st.len, fun j d h => ?_, fun j u h => ?_, fun j l u u' x h1 h2 => ?_⟩, ⟨k.le, fun x u h n => k.keep x u h (nn x fun z => n (z ▸ ow)), fun x h h' n => k.new x h h' (nn x fun z => n (z ▸ ow)), fun x ⟨j, u, h1, h2⟩ => ?_, k.there⟩⟩
  · have ne : i ≠ j := fun z => by subst z; rw [List.getElem?_set_self hi] at h; cases h
    rw [List.getElem?_set_ne ne] at h
    obtain ⟨v, e1, r1⟩ := st.dat j d h
    exact ⟨v, e1, r1.le k.le⟩
  · by_cases z : i = j
    · subst z
      rw [List.getElem?_set_self hi] at h; cases h
      exact ⟨a, ea, r⟩
    · rw [List.getElem?_set_ne z] at h
      obtain ⟨x, e1, w1, r1⟩ := st.own j u h
      have ne : x ≠ a := fun q => z (st.inj i j o u a e h ea (q ▸ e1))
      cases u with
      | lst ds =>
        obtain ⟨vs, q1, q2⟩ := r1
        exact ⟨x, e1, k.new x w1 (by rw [q1]; simp) (nn x ne), vs, k.keep _ _ q1 (nn x ne), q2.le k.le⟩
      | obj c fs =>
        obtain ⟨C, dx, gs, q0, q1, q2⟩ := r1
        exact ⟨x, e1, k.new x w1 (by rw [q1]; simp) (nn x ne), C, dx, gs, q0, k.keep _ _ q1 (nn x ne), q2.le k.le⟩
      | dic kvs =>
        obtain ⟨gs, q1, q2⟩ := r1
        exact ⟨x, e1, k.new x w1 (by rw [q1]; simp) (nn x ne), gs, k.keep _ _ q1 (nn x ne), q2.le k.le⟩
      | dit kvs =>
        obtain ⟨gs, q1, q2⟩ := r1
        exact ⟨x, e1, k.new x w1 (by rw [q1]; simp) (nn x ne), gs, k.keep _ _ q1 (nn x ne), q2.le k.le⟩
  · obtain ⟨v, h1⟩ := back j u h1
    obtain ⟨v', h2⟩ := back l u' h2
    exact st.inj j l v v' x h1 h2
  · obtain ⟨v, h1⟩ := back j u h1
    exact .inl ⟨j, v, h1, h2⟩
end
end Fli
set_option Elab.async false
set_option linter.all false
set_option maxRecDepth 100000
set_option maxHeartbeats 4000000
namespace Fli
open PySem L2
variable [HW]

def slotO (i : Nat) (s : S) : Option O := match s[i]? with
  | some (some (.own o)) => some o
  | _ => none
theorem slotO_some {s : S} {i : Nat} {o : O} (h : slotO i s = some o) : s[i]? = some (some (.own o)) := by
  unfold slotO at h
  split at h
  · cases h; assumption
  · cases h
def firstO (s : S) : Option O := slotO 0 s
theorem firstO_some {s : S} {o : O} (h : firstO s = some o) : s[0]? = some (some (.own o)) := slotO_some h
def lendD (n : Nat) (body : MS) (i : Nat) (ms : M (List D)) : M D := fun s => (slotO i s).bind fun _ => (ms s).bind fun q => (slotO i q.2).bind fun o => (callR n body (.own o :: q.1.map .d)).bind fun r => match r with
  | .rd d s2 => (firstO s2).map fun o' => (d, q.2.set i (some (.own o')))
  | .nx s2 => (firstO s2).map fun o' => (.non, q.2.set i (some (.own o')))
  | _ => none
def lendO (n : Nat) (body : MS) (i : Nat) (ms : M (List D)) : M O := fun s => (slotO i s).bind fun _ => (ms s).bind fun q => (slotO i q.2).bind fun o => (callR n body (.own o :: q.1.map .d)).bind fun r => match r with
  | .ro u s2 => (firstO s2).map fun o' => (u, q.2.set i (some (.own o')))
  | _ => none
section
variable {K : PySem.W.Frag} {mg : Str → Option Value} {k n i : Nat} {N ps : List Str} {body : MS} {ms : M (List D)} {E : XK}
/-- the slot's object, at the call's end -/
theorem own_end {sc : S} {s2 : S} {σ2 σ : L2.St} {vs : List V} {H H2 W2 : Hp} {a : Addr} {o' : O} (st2 : St K mg s2 σ2 H2 W2) (p : Pr [0] (L2.start N (.ref a :: vs)) σ2) (h : firstO s2 = some o') : OR K mg H2 W2 a o' := by
  obtain ⟨b, e, r⟩ := st2.own 0 o' (firstO_some h)
  rw [p 0 (by simp), start_get (N := N) (vs := .ref a :: vs) (i := 0) rfl] at e
  cases e
  exact r
theorem t_lendD (hn : N.length = n) {j : Nat} (hl : LenIs ms j) (hj : j + 1 = ps.length) {σ : L2.St} {H : Hp} {Q : VK} (h : tD K mg (lendD n body i ms) σ H Q) : tCall (spM K mg N ps [0] body) [] E (tCons (tVar i) (tL K mg ms)) σ H Q := by
  obtain ⟨sd, W, d, sd', st, em, q⟩ := h
  simp only [lendD, Option.bind_eq_some_iff] at em
  obtain ⟨o0, e0, ⟨xs, s1⟩, e1, o, e2, r, e3, em⟩ := em
  obtain ⟨a, ha, r0⟩ := st.own i o0 (slotO_some e0)
  refine ⟨_, ha, sd, W, xs, s1, st, e1, fun vs H1 W1 st1 k1 r1 => ?_⟩
  have es := slotO_some e2
  obtain ⟨a', ha', ro⟩ := st1.own i o es
  rw [ha] at ha'; cases ha'
  obtain ⟨sl, no⟩ := st1.lend (N := N) hn r1 ro
  have hne : H1 a ≠ none := by
    obtain ⟨_, z⟩ := ro
    cases o with
    | lst ds => obtain ⟨vs, z, _⟩ := z; rw [z]; simp
    | obj c fs => obtain ⟨C, dx, gs, _, z, _⟩ := z; rw [z]; simp
    | dic kvs => obtain ⟨gs, z, _⟩ := z; rw [z]; simp
    | dit kvs => obtain ⟨gs, z, _⟩ := z; rw [z]; simp
  show spM K mg N ps [0] body ((.ref a :: vs) ++ []) H1 Q E
  rw [List.append_nil]
  refine ⟨by rw [List.length_cons, r1.len, hl _ _ _ e1]; exact hj, _, W1, r, sl, e3, ?_⟩
  cases r with
  | rd d' s2 =>
    simp only [Option.map_eq_some_iff] at em
    obtain ⟨o', e4, em⟩ := em
    cases em
    intro v σ2 H2 W2 st2 k2 p2 rr
    obtain ⟨g1, g2⟩ := st1.back es ha k2 st2 no hne (own_end (sc := s2) (σ := σ) (H := H) st2 p2 e4)
    exact q v H2 W2 g1 (k1.trans g2) rr
  | nx s2 =>
    simp only [Option.map_eq_some_iff] at em
    obtain ⟨o', e4, em⟩ := em
    cases em
    intro σ2 H2 W2 st2 k2 p2
    obtain ⟨g1, g2⟩ := st1.back es ha k2 st2 no hne (own_end (sc := s2) (σ := σ) (H := H) st2 p2 e4)
    exact q _ H2 W2 g1 (k1.trans g2) .non
  | _ => cases em
theorem t_lendO (hn : N.length = n) {j : Nat} (hl : LenIs ms j) (hj : j + 1 = ps.length) {σ : L2.St} {H : Hp} {Q : VK} (h : tO K mg (lendO n body i ms) σ H Q) : tCall (spM K mg N ps [0] body) [] E (tCons (tVar i) (tL K mg ms)) σ H Q := by
  obtain ⟨sd, W, d, sd', st, em, q⟩ := h
  simp only [lendO, Option.bind_eq_some_iff] at em
  obtain ⟨o0, e0, ⟨xs, s1⟩, e1, o, e2, r, e3, em⟩ := em
  obtain ⟨a, ha, r0⟩ := st.own i o0 (slotO_some e0)
  refine ⟨_, ha, sd, W, xs, s1, st, e1, fun vs H1 W1 st1 k1 r1 => ?_⟩
  have es := slotO_some e2
  obtain ⟨a', ha', ro⟩ := st1.own i o es
  rw [ha] at ha'; cases ha'
  obtain ⟨sl, no⟩ := st1.lend (N := N) hn r1 ro
  have hne : H1 a ≠ none := by
    obtain ⟨_, z⟩ := ro
    cases o with
    | lst ds => obtain ⟨vs, z, _⟩ := z; rw [z]; simp
    | obj c fs => obtain ⟨C, dx, gs, _, z, _⟩ := z; rw [z]; simp
    | dic kvs => obtain ⟨gs, z, _⟩ := z; rw [z]; simp
    | dit kvs => obtain ⟨gs, z, _⟩ := z; rw [z]; simp
  show spM K mg N ps [0] body ((.ref a :: vs) ++ []) H1 Q E
  rw [List.append_nil]
  refine ⟨by rw [List.length_cons, r1.len, hl _ _ _ e1]; exact hj, _, W1, r, sl, e3, ?_⟩
  cases r with
  | ro d' s2 =>
    simp only [Option.map_eq_some_iff] at em
    obtain ⟨o', e4, em⟩ := em
    cases em
    intro p σ2 H2 W2 st2 k2 p2 rr nn hf
    have hp : H1 p = none := hf.elim id fun z => by
      have e := no p z.1
      exact absurd (by rw [e]; exact start_get rfl) (z.2 0 (by simp))
    obtain ⟨g1, g2⟩ := st1.back es ha k2 st2 no hne (own_end (sc := s2) (σ := σ) (H := H) st2 p2 e4)
    exact q p H2 W2 g1 (k1.trans g2) rr (fun ⟨i', u, e5, e6⟩ => by
      by_cases z : i = i'
      · subst z
        rw [ha] at e6; cases e6
        exact hne hp
      · rw [List.getElem?_set_ne z] at e5
        exact st1.notOwn hp ⟨i', u, e5, e6⟩) (k1.fresh hp)
  | _ => cases em
end
section
variable {X : Cx} {k n i : Nat} {f : Addr} {fd : FuncData} {N ps : List Str} {body : MS} {x y : Str} {p pos p2 : Pos} {e : Expr} {es : List Expr} {ms : M (List D)} {mo : M O}
theorem e_lend (i : Nat) {j : Nat} (F : FnOk X.prog X.w X.K X.mg X.base CX0 k f fd ps (spM X.K X.mg N ps [0] body)) (hr : Room k X.A) (hg : Gl X x) (hm : X.mg x = some (.ref f)) (hk : PySem.W.keepIn X.K (.ref f) = true) (hb : Binds X.K fd ps [])
    (hn : N.length = n) (hy : PE X (.Name y p2) (tVar i)) (hs : LA X es ms) (hl : LenIs ms j) (hj : j + 1 = ps.length) (hdb : (x == ("__debug__" : Str)) = false := by decide) (he : starEach (.Name y p2 :: es) X.env = (false, eval (.Name y p2) X.env) :: starEach es X.env := by rfl) (hpl : (backTo pos (starEach es X.env)).any (·.1) = false := by rfl) :
    DE X (.Call (.Name x p) (.Name y p2 :: es) [] pos) (lendD n body i ms) := PE.imp (pe_call F hr hg hm hk hb .nil pass0 (pa_cons hy hs he) hdb he hpl) fun σ H Q h => t_lendD (E := E0) hn hl hj h
theorem o_lend (i : Nat) {j : Nat} (F : FnOk X.prog X.w X.K X.mg X.base CX0 k f fd ps (spM X.K X.mg N ps [0] body)) (hr : Room k X.A) (hg : Gl X x) (hm : X.mg x = some (.ref f)) (hk : PySem.W.keepIn X.K (.ref f) = true) (hb : Binds X.K fd ps [])
    (hn : N.length = n) (hy : PE X (.Name y p2) (tVar i)) (hs : LA X es ms) (hl : LenIs ms j) (hj : j + 1 = ps.length) (hdb : (x == ("__debug__" : Str)) = false := by decide) (he : starEach (.Name y p2 :: es) X.env = (false, eval (.Name y p2) X.env) :: starEach es X.env := by rfl) (hpl : (backTo pos (starEach es X.env)).any (·.1) = false := by rfl) :
    OE X (.Call (.Name x p) (.Name y p2 :: es) [] pos) (lendO n body i ms) := PE.imp (pe_call F hr hg hm hk hb .nil pass0 (pa_cons hy hs he) hdb he hpl) fun σ H Q h => t_lendO (E := E0) hn hl hj h
/-- f(e), e a new object that f gets for its own -/
def giveD (n : Nat) (body : MS) (m : M O) : M D := fun s => (m s).bind fun q => (callR n body [.own q.1]).bind fun r => match r with
  | .rd d _ => some (d, q.2)
  | .nx _ => some (.non, q.2)
  | _ => none
theorem t_giveD {K : PySem.W.Frag} {mg : Str → Option Value} {E : XK} (hn : N.length = n) (hj : 1 = ps.length) {σ : L2.St} {H : Hp} {Q : VK} (h : tD K mg (giveD n body mo) σ H Q) : tCall (spM K mg N ps [0] body) [] E (tCons (tO K mg mo) tNil) σ H Q := by
  obtain ⟨sd, W, d, sd', st, em, q⟩ := h
  simp only [giveD, Option.bind_eq_some_iff] at em
  obtain ⟨⟨o, s1⟩, e1, r, e2, em⟩ := em
  refine ⟨sd, W, o, s1, st, e1, fun a H1 W1 st1 k1 ro nn hp => ?_⟩
  obtain ⟨sl, no⟩ := st1.lend (N := N) (n := n) (ds := []) (vs := []) hn .nil ro
  refine ⟨hj, _, W1, r, sl, e2, ?_⟩
  have fin : ∀ {s2 : S} {σ2 : L2.St} {H2 W2 : Hp}, St K mg s2 σ2 H2 W2 → Kp (startS n (.own o :: List.map A.d [])) (L2.start N [.ref a]) H1 W1 s2 σ2 H2 W2 → St K mg s1 σ H2 W2 ∧ Kp sd σ H W s1 σ H2 W2 := fun {s2 σ2 H2 W2} st2 k2 => by
    have ne : ∀ b, b ≠ a → ¬ Own (startS n (.own o :: List.map A.d [])) (L2.start N [.ref a]) b := fun b z y => z (no b y)
    refine ⟨⟨st2.le, st1.len, fun j d h => ?_, fun j u h => ?_, st1.inj⟩, ⟨k1.le.trans k2.le, fun x u h z => ?_, fun x h h' z => ?_, k1.own, fun x h => k2.there x (k1.there x h)⟩⟩
    · obtain ⟨v, e, r⟩ := st1.dat j d h
      exact ⟨v, e, r.le k2.le⟩
    · obtain ⟨x, e, w1, r1⟩ := st1.own j u h
      have nx : x ≠ a := fun z => nn ⟨j, u, h, z ▸ e⟩
      cases u with
      | lst ds =>
        obtain ⟨vs, q1, q2⟩ := r1
        exact ⟨x, e, k2.new x w1 (by rw [q1]; simp) (ne x nx), vs, k2.keep _ _ q1 (ne x nx), q2.le k2.le⟩
      | obj c fs =>
        obtain ⟨C, dx, gs, q0, q1, q2⟩ := r1
        exact ⟨x, e, k2.new x w1 (by rw [q1]; simp) (ne x nx), C, dx, gs, q0, k2.keep _ _ q1 (ne x nx), q2.le k2.le⟩
      | dic kvs =>
        obtain ⟨gs, q1, q2⟩ := r1
        exact ⟨x, e, k2.new x w1 (by rw [q1]; simp) (ne x nx), gs, k2.keep _ _ q1 (ne x nx), q2.le k2.le⟩
      | dit kvs =>
        obtain ⟨gs, q1, q2⟩ := r1
        exact ⟨x, e, k2.new x w1 (by rw [q1]; simp) (ne x nx), gs, k2.keep _ _ q1 (ne x nx), q2.le k2.le⟩
    · have nx : x ≠ a := ne_of_none h hp
      exact k2.keep x u (k1.keep x u h z) (ne x nx)
    · have nx : x ≠ a := fun y => h' (y ▸ hp)
      exact k2.new x (k1.new x h h' z) (k1.there x h') (ne x nx)
  cases r with
  | rd d' s2 =>
    cases em
    intro v σ2 H2 W2 st2 k2 _ rr
    obtain ⟨g1, g2⟩ := fin st2 k2
    exact q v H2 W2 g1 g2 rr
  | nx s2 =>
    cases em
    intro σ2 H2 W2 st2 k2 _
    obtain ⟨g1, g2⟩ := fin st2 k2
    exact q _ H2 W2 g1 g2 .non
  | _ => cases em
end
end Fli
set_option Elab.async false
set_option linter.all false
set_option maxRecDepth 100000
set_option maxHeartbeats 4000000
namespace Fli
open PySem PySem.Spec PyProof.Rows L2
variable [HW]

/-! defs that are called where no repr is under way -/
structure FnG (P : Program) (w : World) (K : PySem.W.Frag) (mg : Str → Option Value) (base : Heap)
    (k : Nat) (f : Addr) (fd : FuncData) (ps : List Str) (sp : Sp) : Prop where
  len : ∀ {vs H Q E}, sp vs H Q E → vs.length = ps.length
  run : ∀ {A : Around} {outer : List Env} {s : Shared} {H : Hp} {args : Args}
    {us : List Value} {vs : List V} {Q : VK} {E : XK}, A.guards = some [] → Room k A →
    Env0 P w K mg base A outer s H → BindsTo s fd args (ps.zip us) → Vals vs us → sp vs H Q E →
    codeAny (model P w) A (.call (.ref f) args) (CR CX0 outer P w H s Q E) s

section
variable {P : Program} {w : World} {K : PySem.W.Frag} {mg : Str → Option Value} {base : Heap}
theorem g_ok {x qual : Str} {st : Stmt} {f : Addr} {fd : FuncData} {N ps : List Str} {k : Nat} {pr : List Nat} {body : MS}
    (F : Fun K x qual st f fd) (Sc : FnScope N ps (defScope st))
    (hb : ∀ (cdv : Value) (A : Around) (outer : List Env) (s : Shared) (H : Hp) (E : XK), A.guards = some [] →
      Room k (A.deeper (PyProof.Rows.envOfC qual (defScope st) s.heap.objs.size f cdv)) →
      SEs (cxOf CX0 P w K mg base N qual (defScope st) f cdv A outer s H E).nox pr (defBody st) body) :
    FnG P w K mg base (k + 1) f fd ps (spM K mg N ps pr body) := by
  obtain ⟨oc, od, kV, doc, pm, an, cdv, ct, osl, rfl, lk, hcd⟩ := F.ex
  constructor
  · intro vs H Q E h; exact h.1
  intro A outer s H args us vs Q E hg hr env bind rel prom
  have inK : K.In s.heap := env.mod.kin.keeps fun b o q => (env.bs b o q).1
  have free : s.heap.NoLimit := env.mod.nolimit.keeps fun b o q => (env.bs b o q).1
  have kinds : ∀ y ∈ ps.zip us, (defScope st).names.lookup y.1 = some .local ∨
      ((defScope st).names.lookup y.1 = some .cell ∧
        ((cellsFrom (s.heap.objs.size + 1) (defScope st).names []).lookup y.1).isSome = true) := by
    rintro ⟨a, b⟩ hy
    exact (Sc.par a (List.of_mem_zip hy).1).imp id fun z => ⟨z, PySem.W.cellsFrom_some _ _ _ (.inl z)⟩
  refine codeAny_call_function hr.depth (inK _ _ lk) rfl Sc.co Sc.gen rfl
    (PySem.W.codeRec_of inK hcd) (bind _ _ _ _ ?_)
  refine wpAny_newFunctionEnv_cells Sc.kind kinds fun env' he s1 x => ?_
  subst he
  refine ⟨free.keeps x.toInCall.keep, codeAny_func ?_⟩
  have body_ok := (hb cdv A outer s H E hg (hr.deeper _)).nox
  have inv : Inv (cxOf CX0 P w K mg base N qual (defScope st) f cdv A outer s H E) [] (L2.start N vs) H s1 :=
    inv_start Sc hr.hd env prom.1 rel x
  refine wpAny_mono (body_ok.run [] s1 (L2.start N vs) H _ inv prom.2) (fun fl s' z => ?_) fun _ _ z => z
  cases fl with
  | next =>
    obtain ⟨a, b, J, q⟩ := z
    exact ⟨.non, b, J.os, J.bare, J.base, J.hok, rfl, q⟩
  | ret u =>
    obtain ⟨v, a, b, J, r, q⟩ := z
    exact ⟨v, b, J.os, J.bare, J.base, J.hok, r, q⟩
  | brk => obtain ⟨_, _, _, q⟩ := z; exact q.elim
  | cont => obtain ⟨_, _, _, q⟩ := z; exact q.elim
end

section
variable {X : Cx} {k n : Nat} {f : Addr} {fd : FuncData} {N ps : List Str} {sp : Sp} {body : MS} {x : Str} {p pos : Pos} {e : Expr} {es : List Expr} {t : TA} {mo : M O}
theorem pe_callG (F : FnG X.prog X.w X.K X.mg X.base k f fd ps sp) (gd : X.A.guards = some []) (hr : Room k X.A) (hg : Gl X x) (hm : X.mg x = some (.ref f))
    (hk : PySem.W.keepIn X.K (.ref f) = true) (hb : Binds X.K fd ps []) (ha : PA X (e :: es) t) (hdb : (x == ("__debug__" : Str)) = false := by decide)
    (he : starEach (e :: es) X.env = (false, eval e X.env) :: starEach es X.env := by rfl)
    (hpl : (backTo pos (starEach es X.env)).any (·.1) = false := by rfl) :
    PE X (.Call (.Name x p) (e :: es) [] pos) (tCall sp [] E0 t) := by
  constructor
  intro pins s σ H Q I h
  refine wpAny_Call_Name_kw (ld_glob I hg hm (PySem.W.callWith_K (h₀ := X.base) I.ok.mod.kin hk ?_ he hpl) hdb)
  refine thn (ha.run pos pins s σ H _ I h) ?_
  rintro us s1 ⟨vs, H1, I1, r, q⟩
  refine ⟨I1.kIn, ?_⟩
  rw [List.append_nil] at q
  have hl : us.length = ps.length := by rw [← r.length]; exact F.len q
  have hbind := hb s1 us I1.kIn (by rw [List.append_nil]; exact hl)
  rw [List.append_nil] at hbind
  refine wpAny_call (codeAny_mono (F.run gd hr I1.env0 hbind r q) ?_)
  intro res s2 hres
  cases res with
  | error er => exact pass0 pins σ H1 s1 er s2 I1 hres
  | ok fl => cases fl with
    | ret u => exact I1.after hres
    | next => exact hres.elim
    | brk => exact hres.elim
    | cont => exact hres.elim
theorem e_giveG (F : FnG X.prog X.w X.K X.mg X.base k f fd ps (spM X.K X.mg N ps [0] body)) (gd : X.A.guards = some []) (hr : Room k X.A) (hg : Gl X x) (hm : X.mg x = some (.ref f))
    (hk : PySem.W.keepIn X.K (.ref f) = true) (hb : Binds X.K fd ps []) (hn : N.length = n) (hj : 1 = ps.length) (ha : OE X e mo) (hdb : (x == ("__debug__" : Str)) = false := by decide)
    (he : starEach [e] X.env = (false, eval e X.env) :: starEach [] X.env := by rfl) (hpl : (backTo pos (starEach [] X.env)).any (·.1) = false := by rfl) :
    DE X (.Call (.Name x p) [e] [] pos) (giveD n body mo) := PE.imp (pe_callG F gd hr hg hm hk hb (pa_cons ha pa_nil he) hdb he hpl) fun σ H Q h => t_giveD (E := E0) hn hj h
end

/-! repr -/
section
variable {X : Cx}
def rRepr (K : PySem.W.Frag) : List V → Hp → VK → Prop := fun xs H Q => ∃ v d, xs = [v] ∧ Dp K H v d ∧ d.showable = true ∧ d.hasDict = false ∧ isDisplay d = true ∧ d.depth ≤ 64 ∧ d.shown.length ≤ sizeLine ∧ Q (.str d.shown) H
theorem call_repr (gd : X.A.guards = some []) (hu : X.A.units + 66 < cLine) : CallR X (.builtin "repr") (rRepr X.K) := by
  intro pins s σ H xs us Q I r h
  obtain ⟨v, d, rfl, hd, h1, h2, h3, h4, h5, q⟩ := h
  cases r with
  | cons r rr =>
    cases rr
    rename_i u
    obtain ⟨as, rd⟩ := Dp.reads I d v u hd r
    obtain ⟨a, rfl⟩ := isRef_of_reads rd h3
    refine repr_of_reads' rd h1 (PyData.noDict_hsm h2) gd (by omega) (fun _ _ e => e) (fun h' u tk hk => ?_) h5
    exact ⟨.str d.shown, H, I.kept hk, ⟨_, rfl⟩, q⟩
def reprD : List D → Option D
  | [d] => (toPy d).bind fun p => if p.showable = true ∧ p.hasDict = false ∧ isDisplay p = true ∧ p.depth ≤ 64 ∧ p.shown.length ≤ sizeLine then some (.str p.shown) else none
  | _ => none
theorem cd_repr {K : PySem.W.Frag} {mg : Str → Option Value} : C1D K mg (rRepr K) reprD := C1D.of fun xs z vs H W le hx hf Q q => by
  unfold reprD at hf
  split at hf
  · simp only [Option.bind_eq_some_iff] at hf
    obtain ⟨p, hp, hf⟩ := hf
    split at hf
    · rename_i h
      cases hf
      cases hx with
      | cons h1 h2 =>
        cases h2
        exact ⟨_, p, rfl, toDp le h1 hp, h.1, h.2.1, h.2.2.1, h.2.2.2.1, h.2.2.2.2, q _ (.str _)⟩
    · cases hf
  · cases hf
end
end Fli
set_option Elab.async false
set_option linter.all false
set_option maxRecDepth 100000
set_option maxHeartbeats 4000000
namespace Fli
open PySem PySem.Spec PyProof.Rows L2
variable [HW]

/-! the law's own call -/
theorem lawG {P : Program} {w : World} {K : PySem.W.Frag} {mg mb : Str → Option Value} {k : Nat} {fa a : Addr}
    {fd : FuncData} {x : Str} {sp : Sp} {s : Shared} {vs : List Value} {ns : List Int} (inK : K.In s.heap)
    (gl : s.heap.Ns mainGlobals mg) (bl : s.heap.Ns builtinsNs mb) (blt : ∀ y : Str, y ≠ "__name__" → mb y = bootBuiltins y)
    (lim : s.heap.NoLimit) (gens : s.gens = #[]) (ha : s.heap.get? a = some { cls := .type "list", data := .seq vs.toArray })
    (hi : IntsAre vs ns) (hl : ns.length ≤ sizeLine) (hr : Room k callerA)
    (F : ∀ base : Heap, K.In base → base.Ns mainGlobals mg → FnG P w K mg base k fa fd [x] sp)
    (hb : ∀ (t : Shared) (u : Value), BindsTo t fd ⟨[u], []⟩ [(x, u)])
    (hsp : ∀ H : Hp, SqL K H a (ns.map V.int) → sp [.ref a] H (fun v _ => v = .bl true) fun _ _ _ => False) :
    codeAny (model P w) callerA (.call (.ref fa) ⟨[.ref a], []⟩)
      (fun r s' => r = .ok (.ret (.bool true)) ∧ OldK s.heap s'.heap ∧ s'.os = s.os ∧ AllBare s'.gens) s := by
  have rel := vals_ints hi
  have go : ∀ H : Hp, (∀ b o, H b = some o → b = a ∧ ∃ ob ys, o = .frz ob (.lst ys)) → SqL K H a (ns.map V.int) → HOk P w H s.heap →
      (H a ≠ none → K.lookup a = none) → codeAny (model P w) callerA (.call (.ref fa) ⟨[.ref a], []⟩)
        (fun r s' => r = .ok (.ret (.bool true)) ∧ OldK s.heap s'.heap ∧ s'.os = s.os ∧ AllBare s'.gens) s := by
    intro H only sq ok noK
    have keep : ∀ {b : Addr} {o : Obj}, s.heap.get? b = some o → (b = a → H a = none) → (hidT s.heap H).get? b = some o := by
      intro b o e n
      refine hidT_get e ?_
      cases q : H b with
      | none => rfl
      | some u => obtain ⟨rfl, _⟩ := only b u q; rw [n rfl] at q; cases q
    have keepNs : ∀ {b : Addr} {m : Str → Option Value}, s.heap.Ns b m → (hidT s.heap H).Ns b m := by
      rintro b m ⟨o, es, ep, e, d, r⟩
      refine ⟨o, es, ep, keep e ?_, d, r⟩
      rintro rfl
      rw [ha] at e
      cases e
      cases d
    have inB : K.In (hidT s.heap H) := by
      intro b o e
      refine keep (inK b o e) ?_
      rintro rfl
      cases q : H b with
      | none => rfl
      | some u => rw [noK (by rw [q]; simp)] at e; cases e
    obtain ⟨mc, l1, l2⟩ := lim
    have env : Env0 P w K mg (hidT s.heap H) callerA [] s H := by
      refine ⟨rfl, ⟨inB, keepNs gl, ⟨mb, keepNs bl, blt⟩, ⟨mc, keepNs l1, l2⟩⟩, fun b o e => of_hidT e, Nat.le_of_eq (hidT_size _ _), trivial, ?_, ok, .of_eq gens⟩
      intro b z
      cases z
    have run := (F _ inB (keepNs gl)).run (A := callerA) rfl hr env (hb s (.ref a)) (show Vals [.ref a] [.ref a] from .cons rfl .nil) (hsp H sq)
    refine codeAny_mono run ?_
    intro r s' h
    cases r with
    | error e => exact False.elim h
    | ok fl => cases fl with
      | next => exact h.elim
      | brk => exact h.elim
      | cont => exact h.elim
      | ret u =>
        obtain ⟨v, H', os, bare, un, ok', rv, q⟩ := h
        have q : v = .bl true := q
        subst q
        have rv : u = Value.bool true := rv
        subst rv
        refine ⟨rfl, OldK.of_keep ?_, os, bare⟩
        intro b o e
        cases q : H b with
        | none => exact un.keep b o e q (fun z => nomatch z) fun z => nomatch z
        | some z =>
          obtain ⟨_, ob, ys, rfl⟩ := only b z q
          have f1 := (ok b _ q).1
          have f2 := (ok' b _ (un.frzs b ob _ q)).1
          rw [e] at f1
          cases f1
          exact f2
  cases hk : K.lookup a with
  | some o =>
    have e := inK a o hk
    rw [ha] at e
    cases e
    refine go (fun _ => none) (fun b o z => nomatch z) (.inr ⟨_, vs.toArray, _, hk, rfl, rfl, rfl, ?_, by simpa using rel⟩) (fun b u z => nomatch z) fun z => (z rfl).elim
    rw [List.size_toArray, hi.length]; exact hl
  | none =>
    let ob : Obj := { cls := .type "list", data := .seq vs.toArray }
    have at_a : (upd (fun _ => none) a (.frz ob (.lst (ns.map V.int)))) a = some (.frz ob (.lst (ns.map V.int))) := upd_same
    have off : ∀ b o, (upd (fun _ => none) a (.frz ob (.lst (ns.map V.int)))) b = some o → b = a ∧ o = .frz ob (.lst (ns.map V.int)) := by
      intro b o e
      by_cases z : b = a
      · subst z; rw [at_a] at e; cases e; exact ⟨rfl, rfl⟩
      · rw [upd_ne z] at e; cases e
    refine go _ (fun b o e => ⟨(off b o e).1, ob, _, (off b o e).2⟩) (.inl (.inr ⟨ob, at_a⟩)) ?_ fun _ => hk
    intro b o e
    obtain ⟨rfl, rfl⟩ := off b o e
    exact ⟨ha, by rw [List.length_map]; exact hl, vs, _, rel, ha⟩

omit [HW] in
theorem walkG {l : PySem.W.OpenLaw} {n k : Nat} {q : Program} {loose : List Str} {XP : (Str → Option Value) → Heap → Prop}
    {YP : World → Heap → Prop} {d : DefRec} {K : Params → PySem.W.Frag} {N : List Str} {x : Str} {body : MS}
    (hn : l.most = some n) (hn2 : n ≤ sizeLine) (hdf : d.params.defaults = []) (hr : Room k callerA)
    (hY : ∀ (w : World) (h : Heap), YP w h → (K w.params).In h)
    (F : ∀ (w : World) (i : HW), i.P = l.prog → i.w = w → ∀ (mg : Str → Option Value) (fa : Addr) (h : Heap), (K w.params).In h → h.Ns mainGlobals mg → mg d.name = some (.ref fa) →
      ∃ fd : FuncData, (∀ (s : Shared) (u : Value), BindsTo s fd ⟨[u], []⟩ [(x, u)]) ∧
        ∀ base : Heap, (K w.params).In base → base.Ns mainGlobals mg → FnG l.prog w (K w.params) mg base k fa fd [x] (spM (K w.params) mg N [x] [] body))
    (hl : ∀ ns : List Int, ns.length ≤ n → ∃ s', callR N.length body [.d (.scr ns)] = some (.rd (.bl true) s')) :
    PySem.W.WalkO q loose XP YP l.row.toRowW d [] (fun f vs => PySem.call f vs) := by
  refine Att.attach_call hn hdf fun w s₀ s mg mb fa o pm cd doc a vs ns G Y ho hd hcd hmg hobj hints hlen hg => ?_
  letI : HW := ⟨l.prog, w⟩
  obtain ⟨fd, hb, hF⟩ := F w ⟨l.prog, w⟩ rfl rfl mg fa _ (hY w _ Y) G.T.g hmg
  refine lawG (hY w _ Y) G.T.g G.T.b G.T.builtins G.T.nolimit hg hobj hints (Nat.le_trans hlen hn2) hr hF hb fun H sq => ?_
  obtain ⟨s', e⟩ := hl ns hlen
  have st : St (K w.params) mg (startS N.length [.d (.scr ns)]) (L2.start N [.ref a]) H H := by
    refine ⟨Le.refl _, startS_len rfl rfl, fun i d h => ?_, fun i o h => ?_, fun i j o u b h => ?_⟩
    · have h := startS_get h
      cases i with
      | zero => cases h; exact ⟨_, start_get (N := N) (vs := [.ref a]) (i := 0) rfl, .scr sq⟩
      | succ i => cases h
    · have h := startS_get h
      cases i with
      | zero => cases h
      | succ i => cases h
    · have h := startS_get h
      cases i with
      | zero => cases h
      | succ i => cases h
  refine ⟨rfl, _, H, _, st, e, ?_⟩
  intro v σ' H' W' _ _ _ r
  cases r
  rfl
end Fli
set_option Elab.async false
set_option linter.all false
set_option maxRecDepth 100000
set_option maxHeartbeats 4000000
namespace Fli
open PySem L2
variable [HW]

/-! objects of own classes -/
def fldD (c f : Str) : D → Option D
  | .ins c' fs => if c' = c then fs.lookup f else none
  | _ => none
def putD (f : Str) (x : D) : List (Str × D) → List (Str × D)
  | [] => [(f, x)]
  | (n, y) :: r => if n = f then (n, x) :: r else (n, y) :: putD f x r
section
variable {K : PySem.W.Frag} {mg : Str → Option Value} {W : Hp}
theorem DFs.look {f : Str} {d : D} : ∀ {gs : List (Str × V)} {fs : List (Str × D)}, DFs K mg W gs fs → fs.lookup f = some d → ∃ v, gs.lookup f = some v ∧ DR K mg W v d
  | _, _, .nil, h => by cases h
  | _, _, @DFs.cons _ _ _ _ n v gs e fs r s, h => by
    rw [List.lookup_cons] at h ⊢
    cases q : f == n with
    | true =>
      rw [q] at h
      cases h
      exact ⟨v, rfl, r⟩
    | false => rw [q] at h; exact DFs.look s h
theorem DFs.put {f : Str} {x : V} {d : D} (r : DR K mg W x d) : ∀ {gs : List (Str × V)} {fs : List (Str × D)}, DFs K mg W gs fs → DFs K mg W (putF f x gs) (putD f d fs)
  | _, _, .nil => .cons r .nil
  | _, _, @DFs.cons _ _ _ _ n v gs e fs r' s => by
    unfold putF putD
    by_cases q : n = f
    · rw [if_pos q, if_pos q]; exact .cons r s
    · rw [if_neg q, if_neg q]; exact .cons r' (DFs.put r s)
theorem DFs.len : ∀ {gs : List (Str × V)} {fs : List (Str × D)}, DFs K mg W gs fs → gs.length = fs.length
  | _, _, .nil => rfl
  | _, _, .cons _ s => by simp [DFs.len s]
end
section
variable {X : Cx} {e : Expr} {pos p2 : Pos} {c f x : Str} {C : Addr} {pr : List Nat}
theorem e_fld {m : M D} (h : DE X e m) (cl : Cls X.K C) (na : NoAttr X.K C f) (hm : X.mg c = some (.ref C)) (hb : attributeBase e f X.env (eval e X.env) = eval e X.env := by rfl) : DE X (.Attribute e f pos) (bindM m fun d => optM (fldD c f d)) := PE.imp (pe_fld h hb) fun σ H Q ⟨sd, W, d, sd', st, em, q⟩ => by
  obtain ⟨y, s1, e1, em⟩ := bindM_some em
  obtain ⟨e2, rfl⟩ := optM_some em
  refine ⟨sd, W, y, sd', st, e1, fun v H1 W1 st1 k1 r => ?_⟩
  unfold fldD at e2
  split at e2
  · split at e2
    · rename_i hc
      subst hc
      cases r with
      | ins m1 g1 r1 =>
        rw [hm] at m1
        cases m1
        obtain ⟨w, e3, r3⟩ := r1.look e2
        exact ⟨_, _, _, _, w, rfl, st1.le _ _ g1, cl, na, e3, q w H1 W1 st1 k1 r3⟩
    · cases e2
  · cases e2
/-- self.f = e, self under way in slot i -/
def setFM (i : Nat) (c f : Str) (m : M D) : MS := fun s => (m s).bind fun q => match slotO i q.2 with
  | some (.obj c' fs) => if c' = c ∧ fs.length < 1000 then some (.nx (q.2.set i (some (.own (.obj c (putD f q.1 fs)))))) else none
  | _ => none
theorem s_fld (i : Nat) {m : M D} (hn : PE X (.Name x p2) (tVar i)) (h : DE X e m) (cl : Cls X.K C) (na : NoAttr X.K C f) (hm : X.mg c = some (.ref C)) (h1 : swapsWith e (some (.Attribute (.Name x p2) f p2)) pos.line X.env = pure false := by rfl) :
    SE X pr (.Assign [.Attribute (.Name x p2) f p2] e pos) (setFM i c f m) := PS.imp (ps_fld hn h h1) fun D σ H ⟨sd, W, out, st, em, q⟩ => by
  simp only [setFM, Option.bind_eq_some_iff] at em
  obtain ⟨⟨d, s1⟩, e1, em⟩ := em
  refine ⟨sd, W, d, s1, st, e1, fun v H1 W1 st1 k1 r => ?_⟩
  split at em
  · rename_i c' fs hs
    split at em
    · rename_i hc
      obtain ⟨rfl, hz⟩ := hc
      cases em
      have es := slotO_some hs
      obtain ⟨a, ha, w, C', dx, gs, m1, g1, r1⟩ := st1.own i _ es
      rw [hm] at m1
      cases m1
      obtain ⟨g2, g3⟩ := st1.put (ho := .ins C dx (putF f v gs)) (o' := .obj c' (putD f d fs)) es ha w ⟨w, _, _, _, hm, upd_same, r1.put r⟩
      exact ⟨_, ha, a, C, dx, gs, rfl, g1, cl, na, by rw [r1.len]; exact hz, q σ _ _ g2 (k1.trans g3) Pr.refl⟩
    · cases em
  · cases em
end

/-- behind a call that was given a new object -/
theorem St.give {K : PySem.W.Frag} {mg : Str → Option Value} {sd s1 sc s2 : S} {σ σc σ2 : L2.St} {H W H1 W1 H2 W2 : Hp} {a : Addr} (st1 : St K mg s1 σ H1 W1) (k1 : Kp sd σ H W s1 σ H1 W1) (nn : ¬ Own s1 σ a) (hp : H a = none)
    (st2 : St K mg s2 σ2 H2 W2) (k2 : Kp sc σc H1 W1 s2 σ2 H2 W2) (no : ∀ b, Own sc σc b → b = a) : St K mg s1 σ H2 W2 ∧ Kp sd σ H W s1 σ H2 W2 := by
  have ne : ∀ b, b ≠ a → ¬ Own sc σc b := fun b z y => z (no b y)
  refine ⟨⟨st2.le, st1.len, fun j d h => ?_, fun j u h => ?_, st1.inj⟩, ⟨k1.le.trans k2.le, fun x u h z => ?_, fun x h h' z => ?_, k1.own, fun x h => k2.there x (k1.there x h)⟩⟩
  · obtain ⟨v, e, r⟩ := st1.dat j d h
    exact ⟨v, e, r.le k2.le⟩
  · obtain ⟨x, e, w1, r1⟩ := st1.own j u h
    have nx : x ≠ a := fun z => nn ⟨j, u, h, z ▸ e⟩
    cases u with
    | lst ds =>
      obtain ⟨vs, q1, q2⟩ := r1
      exact ⟨x, e, k2.new x w1 (by rw [q1]; simp) (ne x nx), vs, k2.keep _ _ q1 (ne x nx), q2.le k2.le⟩
    | obj c fs =>
      obtain ⟨C, dx, gs, q0, q1, q2⟩ := r1
      exact ⟨x, e, k2.new x w1 (by rw [q1]; simp) (ne x nx), C, dx, gs, q0, k2.keep _ _ q1 (ne x nx), q2.le k2.le⟩
    | dic kvs =>
      obtain ⟨gs, q1, q2⟩ := r1
      exact ⟨x, e, k2.new x w1 (by rw [q1]; simp) (ne x nx), gs, k2.keep _ _ q1 (ne x nx), q2.le k2.le⟩
    | dit kvs =>
      obtain ⟨gs, q1, q2⟩ := r1
      exact ⟨x, e, k2.new x w1 (by rw [q1]; simp) (ne x nx), gs, k2.keep _ _ q1 (ne x nx), q2.le k2.le⟩
  · have nx : x ≠ a := ne_of_none h hp
    exact k2.keep x u (k1.keep x u h z) (ne x nx)
  · have nx : x ≠ a := fun y => h' (y ▸ hp)
    exact k2.new x (k1.new x h h' z) (k1.there x h') (ne x nx)

def mkR (n : Nat) (body : MS) (c : Str) (as : List D) : Option O := (callR n body (.own (.obj c []) :: as.map .d)).bind fun o => match o with
  | .nx s2 => (firstO s2).bind fun o' => match o' with
    | .obj c' fs => if c' = c then some (.obj c fs) else none
    | _ => none
  | _ => none
def mkO (n : Nat) (body : MS) (c : Str) (ms : M (List D)) (g : List D → List D) : M O := bindM ms fun xs => optM (mkR n body c (g xs))
section
variable {K : PySem.W.Frag} {mg : Str → Option Value} {N ps : List Str} {n : Nat} {body : MS} {c : Str} {C : Addr} {E : XK}
theorem mk_core (hn : N.length = n) (hm : mg c = some (.ref C)) {sd s1 : S} {σ : L2.St} {H W H2 W2 : Hp} {vs : List V} {xs : List D} {o : O} {Q : VK} (st : St K mg s1 σ H2 W2) (k : Kp sd σ H W s1 σ H2 W2) (r : DRs K mg W2 vs xs) (hl : vs.length + 1 = ps.length) (em : mkR n body c xs = some o)
    (q : ∀ p H' W', St K mg s1 σ H' W' → Kp sd σ H W s1 σ H' W' → OR K mg H' W' p o → ¬ Own s1 σ p → H p = none → Q (.ref p) H') :
    ∀ x dx, H2 x = none → H2 dx = none → dx ≠ x → spM K mg N ps [0] body (.ref x :: vs) (upd (upd H2 dx (.own x)) x (.ins C dx [])) (fun v H' => v = .non ∧ Q (.ref x) H') E := by
  intro x dx hx hdx ne
  simp only [mkR, Option.bind_eq_some_iff] at em
  obtain ⟨out, e1, em⟩ := em
  obtain ⟨g1, g2⟩ := st.newO hdx (.own x)
  have hx' : (upd H2 dx (.own x)) x = none := by rw [upd_ne (Ne.symm ne)]; exact hx
  obtain ⟨g3, g4⟩ := g1.newO hx' (.ins C dx [])
  have ro : OR K mg (upd (upd H2 dx (.own x)) x (.ins C dx [])) W2 x (.obj c []) := ⟨st.free hx, C, dx, [], hm, upd_same, .nil⟩
  obtain ⟨sl, no⟩ := g3.lend (N := N) hn r ro
  refine ⟨hl, _, W2, out, sl, e1, ?_⟩
  cases out with
  | nx s2 =>
    simp only [Option.bind_eq_some_iff] at em
    obtain ⟨o', e2, em⟩ := em
    intro σ2 H3 W3 st3 k3 p3
    have re := own_end (sc := s2) (σ := σ) (H := H) st3 p3 e2
    split at em
    · split at em
      · rename_i hc
        subst hc
        cases em
        have kk := (k.trans g2).trans g4
        obtain ⟨f1, f2⟩ := St.give (a := x) g3 kk (fun z => st.notOwn hx z) (k.fresh hx) st3 k3 no
        exact ⟨rfl, q x H3 W3 f1 f2 re (fun z => st.notOwn hx z) (k.fresh hx)⟩
      · cases em
    · cases em
  | _ => cases em
end
section
variable {X : Cx} {k n : Nat} {f C : Addr} {fd : FuncData} {N ps ks : List Str} {body : MS} {dvs : List V} {dd : List D} {ds : List Value} {x : Str} {p pos : Pos} {e : Expr} {es : List Expr} {ms : M (List D)}
theorem o_make {j : Nat} (Mx : Mk X.K C f) (F : FnOk X.prog X.w X.K X.mg X.base CX0 k f fd ps (spM X.K X.mg N ps [0] body)) (hr : Room (k + 1) X.A) (hg : Gl X x) (hm : X.mg x = some (.ref C)) (hb : Binds X.K fd ps ds) (hd : Vals dvs ds)
    (hdd : ∀ W, DRs X.K X.mg W dvs dd) (hn : N.length = n) (hs : LA X (e :: es) ms) (hl : LenIs ms j) (hj : j + dd.length + 1 = ps.length) (hdb : (x == ("__debug__" : Str)) = false := by decide) (he : starEach (e :: es) X.env = (false, eval e X.env) :: starEach es X.env := by rfl) (hpl : (backTo pos (starEach es X.env)).any (·.1) = false := by rfl) :
    OE X (.Call (.Name x p) (e :: es) [] pos) (mkO n body x ms fun xs => xs ++ dd) := PE.imp (pe_make (E := E0) Mx F hr hg hm hb hd pass0 hs hdb he hpl) fun σ H Q ⟨sd, W, o, sd', st, em, q⟩ => by
  obtain ⟨xs, s1, e1, em⟩ := bindM_some em
  obtain ⟨e2, rfl⟩ := optM_some em
  refine ⟨sd, W, xs, sd', st, e1, fun vs H1 W1 st1 k1 r1 => ?_⟩
  have r2 := r1.app (hdd W1)
  refine mk_core hn hm st1 k1 r2 ?_ e2 q
  rw [r2.len, List.length_append, hl _ _ _ e1]; exact hj
/-- an argument list by keywords -/
abbrev LK (X : Cx) (kws : List Keyword) (m : M (List D)) : Prop := PK X kws (tL X.K X.mg m)
theorem lk_nil : LK X [] (retM []) := ⟨fun pos pins s σ H Q I ⟨sd, W, d, sd', st, em, q⟩ => by
  cases em
  exact (pk_nil (X := X)).run pos pins s σ H Q I (q _ H W st Kp.refl .nil)⟩
theorem lk_cons {nm : Option Str} {kpos : Pos} {kws : List Keyword} {m : M D} (h : DE X e m) (hs : LK X kws ms) : LK X (⟨nm, e, kpos⟩ :: kws) (bindM m fun d => bindM ms fun ds => retM (d :: ds)) := ⟨fun pos pins s σ H Q I ⟨sd, W, d, sd', st, em, q⟩ => by
  obtain ⟨x, s1, e1, em⟩ := bindM_some em
  obtain ⟨xs, s2, e2, em⟩ := bindM_some em
  cases em
  exact (pk_cons h hs).run pos pins s σ H Q I ⟨sd, W, x, s1, st, e1, fun v H1 W1 st1 k1 r1 => ⟨s1, W1, xs, sd', st1, e2, fun vs H2 W2 st2 k2 r2 => q _ H2 W2 st2 (k1.trans k2) (.cons (r1.le k2.le) r2)⟩⟩⟩
theorem o_makeK {j : Nat} {g : List Value → List Value → List Value} {gV : List V → List V → List V} {gD : List D → List D} {kws : List Keyword} (Mx : Mk X.K C f) (F : FnOk X.prog X.w X.K X.mg X.base CX0 k f fd ps (spM X.K X.mg N ps [0] body)) (hr : Room (k + 1) X.A) (hg : Gl X x) (hm : X.mg x = some (.ref C)) (hb : KBn X.K fd ps 1 ks g gV)
    (hgV : ∀ (v : V) (zs : List V) (W : Hp) (xs : List D), DRs X.K X.mg W zs xs → ∃ us, gV [v] zs = v :: us ∧ DRs X.K X.mg W us (gD xs)) (hn : N.length = n) (hs : LK X kws ms) (hl : LenIs ms ks.length) (hj : ∀ xs : List D, xs.length = ks.length → (gD xs).length + 1 = ps.length)
    (hall : (backToKw pos (keywordEach kws X.env)).all (·.1.isSome) = true := by rfl) (hks : (backToKw pos (keywordEach kws X.env)).filterMap (·.1) = ks := by rfl) (hdb : (x == ("__debug__" : Str)) = false := by decide)
    (hpl : ((backTo pos (starEach [] X.env)).any (·.1) || (backToKw pos (keywordEach kws X.env)).any (·.1.isNone)) = false := by rfl) :
    OE X (.Call (.Name x p) [] kws pos) (mkO n body x ms gD) := PE.imp (pe_makeK0 (E := E0) Mx F hr hg hm hb pass0 hs hall hks hdb hpl) fun σ H Q ⟨sd, W, o, sd', st, em, q⟩ => by
  obtain ⟨xs, s1, e1, em⟩ := bindM_some em
  obtain ⟨e2, rfl⟩ := optM_some em
  refine ⟨sd, W, xs, sd', st, e1, fun zs H1 W1 st1 k1 r1 => ⟨rfl, by rw [r1.len]; exact hl _ _ _ e1, fun y dy hy hdy ne => ?_⟩⟩
  obtain ⟨us, eg, ru⟩ := hgV (.ref y) zs W1 xs r1
  rw [eg]
  exact mk_core hn hm st1 k1 ru (by rw [ru.len]; exact hj _ (hl _ _ _ e1)) e2 q y dy hy hdy ne
end
end Fli
set_option Elab.async false
set_option linter.all false
set_option maxRecDepth 100000
set_option maxHeartbeats 4000000
namespace Fli
open PySem PySem.Spec PyProof.Rows L2
variable [HW]
open AutoSeq1 (wpAny_loadPart')

/-! enumerate over a tuple -/
section
variable {prog : Program} {w : World} {A : Around} {E : Value → Shared → Prop} {s : Shared}
abbrev tupIt (t : Addr) : Obj := { cls := .type "tuple_iterator", data := .fields #[.ref t, .int 0 0] }
abbrev enumObj (i : Addr) : Obj := { cls := .type "enumerate", data := .fields #[.none, .bool false, .ref i, rawInt 0, .none, .none] }
theorem enum_newT (t : Addr) (items : Array Value) (n : Nat) (dct : Option Addr) (sl : Array (Option Value)) :
    Meets (Builtin.«enumerate.__new__» ⟨[.type "enumerate", .ref t], []⟩) (fun _ R s =>
      s.heap.get? t = some { cls := .type "tuple", dict := dct, data := .seq items n, slots := sl } ∧
      R (.ok (.ret (.ref (s.heap.push (tupIt t)).objs.size))) { s with heap := (s.heap.push (tupIt t)).push (enumObj s.heap.objs.size) }) := by
  refine .of_wp fun prog w A R s h => ?_
  obtain ⟨hp, g, d, tk, os⟩ := s
  obtain ⟨ht, h⟩ := h
  have hsub := sub_enumerate
  have hT : Heap.IsTuple (Shared.heap ⟨hp, g, d, tk, os⟩) t items := ⟨_, ht, rfl, n, rfl⟩
  wp_walk using wpAny_loadPart' ht
  refine wpAny_stack_any fun st => wpAny_pure ?_
  split
  · rename_i c _ _ _ _ _
    cases (c == Value.type "enumerate")
    all_goals
      wp_walk using wpAny_loadPart' ht, wpAny_pyIter_tuple hT
      exact ⟨_, rfl, h⟩
  · wp_walk using wpAny_loadPart' ht, wpAny_pyIter_tuple hT
    exact ⟨_, rfl, h⟩
theorem call_enumT {t : Addr} {items : Array Value} {Q : Value → Shared → Prop} (ht : s.heap.IsTuple t items)
    (h : ∀ h', IsEnum h' (s.heap.objs.size + 1) s.heap.objs.size 0 .none → h'.IsTupleIter s.heap.objs.size t 0 →
      (∀ b o, s.heap.get? b = some o → h'.get? b = some o) → Q (.ref (s.heap.objs.size + 1)) { s with heap := h' }) :
    wpAny (model prog w) A (call (.type "enumerate") [.ref t]) Q E s := by
  obtain ⟨⟨c, dct, dt, sl⟩, hl, hc, n, hd⟩ := ht
  have hc : c = .type "tuple" := hc
  have hd : dt = .seq items n := hd
  subst hc
  subst hd
  refine callType_new F.called_enumerate (by decide) (F.typeCall_enumerate_1 _) (F.newCall_enumerate_1 _)
    (fun obj => F.args_object_init_2 obj _) F.entry_enumerate_new (enum_newT t items n dct sl) ⟨hl, ?_⟩
  have hz : (s.heap.push (tupIt t)).objs.size = s.heap.objs.size + 1 := Heap.size_push ..
  show _ ∧ _
  rw [hz]
  have he : IsEnum ((s.heap.push (tupIt t)).push (enumObj s.heap.objs.size)) (s.heap.objs.size + 1) s.heap.objs.size 0 .none := by
    have z := Heap.get?_push_size (s.heap.push (tupIt t)) (o := enumObj s.heap.objs.size) rfl
    rw [hz] at z
    exact z
  exact ⟨⟨_, he, rfl⟩, h _ he ⟨_, Heap.get?_push_of_some _ (Heap.get?_push_size _ rfl), rfl, rfl⟩
    fun b o x => Heap.get?_push_of_some _ (Heap.get?_push_of_some _ x)⟩
end

def IteT (K : PySem.W.Frag) (a : Addr) : It where
  go := fun i H => ∃ (xs : List V) (x : V), SqT K H a xs ∧ xs[i]? = some x
  yld := fun i H v H' => ∃ (T : Addr) (x : V), v = .ref T ∧ H T = none ∧ H' = upd H T (.tup [.int (i : Nat), x]) ∧ ∀ xs, SqT K H a xs → xs[i]? = some x
  stop := fun i H => ∃ xs : List V, SqT K H a xs ∧ xs.length ≤ i
theorem turn_enumT {P : Program} {w : World} {K : PySem.W.Frag} {elts : List Expr} {kk : Nat} {tpos : Pos} (a e it : Addr) :
    L2.Turn P w K (.Tuple elts kk tpos) (IteT K a) [e, it] e
      (fun i h => (∃ old, IsEnum h e it ((i : Nat) : Int) old) ∧ h.IsTupleIter it a i ∧ e ≠ it) := by
  refine { mem := by simp, obj := ?_, keep := ?_, item := ?_, done := ?_, self := ?_ }
  · rintro i h ⟨⟨old, he⟩, ⟨o, ho, hc, hd⟩, _⟩ b hb
    rcases (show b = e ∨ b = it by simpa using hb) with rfl | rfl
    · exact ⟨_, he, fun v q => nomatch q⟩
    · exact ⟨o, ho, fun v q => by rw [hd] at q; cases q⟩
  · rintro i h h' ⟨⟨old, he⟩, hi, hne⟩ k
    exact ⟨⟨old, k e (by simp) _ he⟩, hi.at fun o q => k it (by simp) o q, hne⟩
  · intro X hP hw hK hc i pins s σ H E I hf st hg
    subst hP
    subst hw
    subst hK
    obtain ⟨⟨old, he⟩, hit, hne⟩ := st
    obtain ⟨xs, x, hq, hx⟩ := hg
    obtain ⟨its, rv, p, hz⟩ := I.tuple hq
    obtain ⟨u, hu, ru⟩ := rv.get hx
    obtain ⟨oa, hoa, hca, _⟩ := id p
    obtain ⟨oi, hoi, hci, _⟩ := id hit
    have nea : e ≠ a := by
      rintro rfl
      rw [he] at hoa
      cases hoa
      injection hca with z
      exact absurd z (by decide)
    have nia : a ≠ it := by
      rintro rfl
      rw [hoi] at hoa
      cases hoa
      rw [hci] at hca
      injection hca with z
      exact absurd z (by decide)
    have lte : e < s.heap.objs.size := Heap.lt_size he
    have lti : it < s.heap.objs.size := Heap.lt_size hoi
    have hui : its.toArray[i]? = some u := by simpa using hu
    have hlt : i < its.toArray.size := (Array.getElem?_eq_some_iff.mp hui).1
    refine wpAny_pyNext_enum_itemD (Draws.tuple (A := X.A.in1) (I.ok.hd hc) it a nia its.toArray) he ⟨hit, p⟩ hlt hne (by simp [hne, nea]) ?_
    intro y h' tk hy ho st' hT hsz hk
    have hy : its.toArray[i]? = some y := hy
    rw [hui] at hy
    cases hy
    refine ⟨_, rfl, wpAny_letOwnedTupleGo_enum (s := { s with heap := h', toks := tk + 1 }) ho ?_⟩
    intro h2 he2 sb
    have hT2 : h2.get? s.heap.objs.size = some { cls := .type "tuple", data := .seq #[.int i tk, u] } := (sb.2 _ (Nat.ne_of_gt lte)).trans hT
    have new : ObjOk X.prog X.w (upd H s.heap.objs.size (.tup [.int (i : Nat), x])) h2 s.heap.objs.size (.tup [.int (i : Nat), x]) :=
      ⟨show 2 ≤ sizeLine by decide, [.int i tk, u], .cons ⟨_, rfl⟩ (.cons ru .nil), ⟨_, hT2, rfl, _, rfl⟩⟩
    have I1 : Inv X pins σ (upd H s.heap.objs.size (.tup [.int (i : Nat), x])) { s with heap := h2, toks := tk + 1 } := by
      refine I.turnedNew (ch := [e, it]) ?_ hf (Nat.le_refl _) new
      intro b ob hb q
      have b1 : b ≠ e := fun z => hb (by simp [z])
      have b2 : b ≠ it := fun z => hb (by simp [z])
      exact (sb.2 b b1).trans (hk b ob b1 b2 q)
    refine ⟨.ref s.heap.objs.size, _, I1, rfl, ⟨_, x, rfl, I.hok.fresh (Nat.le_refl _), rfl, ?_⟩, ⟨⟨u, ?_⟩, st'.1.at fun o q => (sb.2 it (Ne.symm hne)).trans q, hne⟩, ?_⟩
    · intro ys hy
      rw [I.tuple_inj hy hq]
      exact hx
    · rw [show ((i + 1 : Nat) : Int) = (i : Int) + 1 by omega]
      exact he2
    · intro b hb
      have lb : b < s.heap.objs.size := by
        rcases (show b = e ∨ b = it by simpa using hb) with rfl | rfl
        · exact lte
        · exact lti
      rw [upd_ne (Nat.ne_of_lt lb)]
      exact (hf b hb).1
  · intro X hP hw hK hc i pins s σ H E I hf st hg
    subst hP
    subst hw
    subst hK
    obtain ⟨⟨old, he⟩, hit, hne⟩ := st
    obtain ⟨xs, hq, hx⟩ := hg
    obtain ⟨its, rv, p, hz⟩ := I.tuple hq
    obtain ⟨oa, hoa, hca, _⟩ := id p
    obtain ⟨oi, hoi, hci, _⟩ := id hit
    have nia : a ≠ it := by
      rintro rfl
      rw [hoi] at hoa
      cases hoa
      rw [hci] at hca
      injection hca with z
      exact absurd z (by decide)
    obtain ⟨f0, f1, f2, f3, f4, f5⟩ := hf it (by simp)
    have hl := rv.length
    have D : Draws X.prog X.w X.A.in1 it [it, a] i (fun _ _ => True) (fun j h => j = i ∧ h.IsTupleIter it a i ∧ h.IsTuple a its.toArray) := by
      refine ⟨?_, ?_, ?_, ?_⟩
      · rintro j h ⟨_, ⟨o, ho, _⟩, _⟩
        exact ⟨o, ho⟩
      · rintro j h h' ⟨z, s1, s2⟩ k
        exact ⟨z, s1.at fun o e => k it (by simp) o e, s2.at fun o e => k a (by simp) o e⟩
      · rintro j s Q E hj ⟨z, _⟩
        omega
      · rintro s Q E ⟨_, s1, s2⟩ hE
        exact wpAny_nextOf_tuple_end (I.ok.hd hc) s1 s2 (by simp; omega) hE
    refine wpAny_pyNext_enum_endD D he ⟨rfl, hit, p⟩ ?_
    intro h' eb
    exact ⟨rfl, I.turned (t' := s.toks) (fun b o hb q => eb b o hb q) f0 f1 f3 f4 f5⟩
  · intro A i s Q E st q
    obtain ⟨⟨old, he⟩, _⟩ := st
    exact wpAny_pyIter_enum he q
def iEnumT (K : PySem.W.Frag) (ta : TA) : TI := fun σ H R => ta σ H fun vs H1 => ∃ a xs, vs = [.ref a] ∧ SqT K H1 a xs ∧ R (IteT K a) H1
theorem pi_enumT {X : Cx} {e : Expr} {ta : TA} {p pos tpos : Pos} {elts : List Expr} {kk : Nat} (hg : Gl X "enumerate") (hm : X.mg "enumerate" = none) (ha : PA X [e] ta)
    (hs : starEach [e] X.env = [(false, eval e X.env)] := by rfl) : PI X (.Tuple elts kk tpos) (.Call (.Name "enumerate" p) [e] [] pos) (iEnumT X.K ta) := by
  constructor
  intro pins s σ H R I h
  refine Call_ (ld_blt I hg hm boot_enumerate (PyProof.Rows.callWith_type1 (thn (ha.run pos pins s σ H _ I h) ?_) hs rfl))
  rintro us s1 ⟨vs, H1, I1, r1, a, xs, rfl, hq, q⟩
  obtain ⟨u, rfl, ru⟩ := vals1 r1
  cases ru
  obtain ⟨its, rv, p', hz⟩ := I1.tuple hq
  refine call_enumT p' fun h' he hit hk => wpAny_pyIter_enum he ?_
  refine ⟨s1.heap.objs.size + 1, [s1.heap.objs.size + 1, s1.heap.objs.size], _, _, H1, rfl, I1.kept (t' := s1.toks) hk,
    turn_enumT a (s1.heap.objs.size + 1) s1.heap.objs.size, ⟨⟨.none, he⟩, hit, Nat.succ_ne_self _⟩, ?_, q⟩
  intro b hb
  have hle : s1.heap.objs.size ≤ b := by
    rcases (show b = s1.heap.objs.size + 1 ∨ b = s1.heap.objs.size by simpa using hb) with rfl | rfl
    · exact Nat.le_succ _
    · exact Nat.le_refl _
  exact I1.fpOk hle (I1.hok.fresh hle)
end Fli
set_option Elab.async false
set_option linter.all false
set_option maxRecDepth 100000
set_option maxHeartbeats 4000000
namespace Fli
open PySem PySem.Spec PyProof.Rows L2
variable [HW]

/-! for i, x in enumerate(t) -/
def enumD (ds : List D) : List D := ds.mapIdx fun i d => .tup [.int (i : Int), d]
theorem enumD_get {ds : List D} {i : Nat} {d : D} (h : ds[i]? = some d) : (enumD ds)[i]? = some (.tup [.int (i : Int), d]) := by
  unfold enumD
  rw [List.getElem?_mapIdx, h]; rfl
section
variable {K : PySem.W.Frag} {mg : Str → Option Value} {pr : List Nat} {D : Ends} {sd : S} {σ : L2.St} {H W : Hp} {out : Out} {gs : TGs} {fs : List Fli.D → S → Option S} {m : MS}
theorem Turn.oneE {items : List Fli.D} {i : Nat} {d : Fli.D} {x : V} {σ' : L2.St} {H' : Hp} {T : Addr} (hg : TGs' K mg pr gs fs) (q : Post K mg pr D sd σ H W out) (hd : items[i]? = some (.tup [.int (i : Int), d])) (t : Turn K mg pr sd σ H W (tupF 2 fs) m items out i σ' H')
    (hx : ∀ W', Le W W' → DR K mg W' x d) (hT : H' T = none) : gTup K 2 gs (.ref T) σ' (upd H' T (.tup [.int (i : Int), x])) fun σ2 H2 => tM K mg pr m { nx := Turn K mg pr sd σ H W (tupF 2 fs) m items out (i + 1), rt := D.rt, bk := D.nx, ct := Turn K mg pr sd σ H W (tupF 2 fs) m items out (i + 1) } σ2 H2 := by
  obtain ⟨sd', W', st, k, p, em⟩ := t
  have hl : i < items.length := (List.getElem?_eq_some_iff.mp hd).1
  have hd' : items[i] = .tup [.int (i : Int), d] := (List.getElem?_eq_some_iff.mp hd).2
  rw [List.drop_eq_getElem_cons hl, hd'] at em
  simp only [loopM, Option.bind_eq_some_iff] at em
  obtain ⟨s1, e1, o, e2, em⟩ := em
  obtain ⟨g1, g2⟩ := st.newO hT (.tup [.int (i : Int), x])
  have e1 : fs [.int (i : Int), d] sd' = some s1 := e1
  refine ⟨T, _, rfl, .inl (.inl upd_same), rfl, hg _ _ sd' s1 σ' _ W' g1 (.cons (.int _) (.cons (hx W' k.le) .nil)) e1 _ fun σ1 H1 W1 st1 k1 p1 => ⟨s1, W1, o, st1, e2, ?_⟩⟩
  have k' := (k.trans g2).trans k1
  have p' := p.trans p1
  cases o with
  | nx s2 => exact fun σ2 H2 W2 st2 k2 p2 => ⟨s2, W2, st2, k'.trans k2, p'.trans p2, em⟩
  | ct s2 => exact fun σ2 H2 W2 st2 k2 p2 => ⟨s2, W2, st2, k'.trans k2, p'.trans p2, em⟩
  | bk s2 =>
    cases em
    exact fun σ2 H2 W2 st2 k2 p2 => q σ2 H2 W2 st2 (k'.trans k2) (p'.trans p2)
  | rd d s2 =>
    cases em
    exact fun v σ2 H2 W2 st2 k2 p2 r => q v σ2 H2 W2 st2 (k'.trans k2) (p'.trans p2) r
  | ro o s2 =>
    cases em
    exact fun v σ2 H2 W2 st2 k2 p2 r n e => q v σ2 H2 W2 st2 (k'.trans k2) (p'.trans p2) r n (Fr.back k' p' e)
end
def tupLs : D → Option (List D)
  | .tup ds => some ds
  | _ => none
def forE (mi : M D) (fs : List D → S → Option S) (m : MS) : MS := fun s => (mi s).bind fun q => (tupLs q.1).bind fun ds => loopM (tupF 2 fs) m (enumD ds) q.2
section
variable {X : Cx} {pr : List Nat} {e tg : Expr} {sts : List Stmt} {pos p tpos : Pos} {elts : List Expr} {kk : Nat} {gs : TGs} {fs : List D → S → Option S} {m : MS} {mi : M D}
theorem s_forE {p3 : Pos} (hi : DE X e mi) (hr : Gl X "enumerate") (hm : X.mg "enumerate" = none) (hg : PG X (.Tuple elts kk tpos) (gTup X.K 2 gs)) (hf : TGs' X.K X.mg pr gs fs) (hb : SEs X pr sts m) (hc : X.calm = true) (hp : PassesOwn (model X.prog X.w) X.A X.env X.xe)
    (hs : starEach [e] X.env = [(false, eval e X.env)] := by rfl) (he : starEach (e :: []) X.env = (false, eval e X.env) :: starEach [] X.env := by rfl) : SE X pr (.For (.Tuple elts kk tpos) (.Call (.Name "enumerate" p) [e] [] p3) sts [] pos) (forE mi fs m) := PS.imp (ps_for hp hc (pi_enumT hr hm (pa_cons hi pa_nil he) hs) hg hb) fun D σ H ⟨sd, W, out, st, em, q⟩ => by
  simp only [forE, Option.bind_eq_some_iff] at em
  obtain ⟨⟨d, s1⟩, e1, ds, e2, em⟩ := em
  refine ⟨sd, W, d, s1, st, e1, fun v H1 W1 st1 k1 r1 => ?_⟩
  cases d with
  | tup es =>
    cases e2
    cases r1 with
    | @tup a vs _ sa ra =>
      have qq := q.behind k1 Pr.refl
      refine ⟨a, vs, rfl, st_le st1.le sa, fun i m' σ' H' => Turn X.K X.mg pr s1 σ H1 W1 (tupF 2 fs) m (enumD ds) out i σ' H' ∧ m' + i = vs.length, ⟨vs.length, ⟨s1, W1, st1, Kp.refl, Pr.refl, em⟩, rfl⟩, ?_⟩
      rintro i m' σ' H' ⟨t, hm'⟩
      have sq : SqT X.K H' a vs := by
        obtain ⟨sd', W', st', k', _, _⟩ := t
        exact st_le (k'.le.trans st'.le) sa
      have lenE : (enumD ds).length = vs.length := by unfold enumD; rw [List.length_mapIdx]; exact ra.len.symm
      by_cases hi : i < vs.length
      · refine .inr ⟨⟨vs, vs[i], sq, by simp [hi]⟩, fun σ2 H2 => Turn X.K X.mg pr s1 σ H1 W1 (tupF 2 fs) m (enumD ds) out (i + 1) σ2 H2, fun σ2 H2 n => ⟨m' - 1, by omega, n, by omega⟩, ?_⟩
        rintro x H2 ⟨T, y, rfl, hT, rfl, hy⟩
        obtain ⟨d, hd, rd⟩ := ra.get' (hy vs sq)
        exact Turn.oneE hf qq (enumD_get hd) t (fun W' le => rd.le le) hT
      · exact .inl ⟨⟨vs, sq, by omega⟩, Turn.done (by omega) qq t⟩
  | _ => cases e2
end

/-! isinstance -/
def tyD : D → Option String
  | .non => some "NoneType"
  | .bl _ => some "bool"
  | .int _ => some "int"
  | .str _ => some "str"
  | .tup _ => some "tuple"
  | .lst _ => some "list"
  | .scr _ => some "list"
  | .ins _ _ => none
  | .cls _ => none
  | .dic _ => none
  | .dit _ => none
def isB (T : String) (d : D) : Option D := (tyD d).bind fun t => (kitB t T).map .bl
def isC (c : Str) (d : D) : Option D := match d with
  | .ins c' _ => if c' = c then some (.bl true) else none
  | d => (tyD d).map fun _ => .bl false
theorem ty_of {K : PySem.W.Frag} {mg : Str → Option Value} {H W : Hp} {v : V} {d : D} {t : String} (le : Le W H) (r : DR K mg W v d) (h : tyD d = some t) : TyX K H v (.type t) := by
  cases r with
  | non => cases h; exact .base .non
  | bl b => cases h; exact .base (.bl b)
  | int i => cases h; exact .base (.int i)
  | str x => cases h; exact .base (.str x)
  | tup s r =>
    cases h
    rcases s with ⟨ob, s, _⟩ | ⟨o, its, n, h1, h2, _⟩
    · exact .fTuple (le _ _ s)
    · exact .kTuple h1 h2
  | lst s r => cases h; exact .base (.lst (le _ _ s))
  | scr s =>
    cases h
    rcases s with (s | ⟨o, s⟩) | ⟨o, its, n, h1, h2, _⟩
    · exact .base (.lst (le _ _ s))
    · exact .base (.frz (le _ _ s))
    · exact .kList h1 h2
  | ins _ _ _ => cases h
  | cls _ => cases h
  | dic _ _ => cases h
  | dit _ _ => cases h
/-- what is to be known of an own class for isinstance -/
structure InsTy (K : PySem.W.Frag) (C : Addr) : Prop where
  cl : Cls K C
  a : PySem.W.findIn K (.ref C) "__class__" = some (some (.builtin "object.__class__"))
  b : PySem.W.specialIn K (.builtin "object.__class__") "__get__" = some (some (.builtin "getset_descriptor.__get__"))
  c : PySem.W.takesIn K (.builtin "object.__class__") = some true
  d : PySem.W.mroIn K C (.type "object") = some true
section
variable {X : Cx} {e : Expr} {p pos p2 : Pos} {x : Str} {C : Addr} {m : M D}
theorem e_isB {T : String} {tn : Str} (h : DE X e m) (hg : Gl X "isinstance") (hm : X.mg "isinstance" = none) (ht : PE X (.Name tn p2) (tC (.ty T)))
    (he : starEach [e, .Name tn p2] X.env = (false, eval e X.env) :: starEach [.Name tn p2] X.env := by rfl) (he2 : starEach [.Name tn p2] X.env = (false, eval (.Name tn p2) X.env) :: starEach [] X.env := by rfl) (hpl : (backTo pos (starEach [.Name tn p2] X.env)).any (·.1) = false := by rfl) :
    DE X (.Call (.Name "isinstance" p) [e, .Name tn p2] [] pos) (bindM m fun d => optM (isB T d)) := PE.imp (pe_callB call_isi hg hm (by decide +kernel) (pa_cons h (pa_cons ht pa_nil he2) he) (by decide) (by decide) he hpl) fun σ H Q ⟨sd, W, z, sd', st, em, q⟩ => by
  obtain ⟨d, s1, e1, em⟩ := bindM_some em
  obtain ⟨e2, rfl⟩ := optM_some em
  refine ⟨sd, W, d, sd', st, e1, fun v H1 W1 st1 k1 r => ?_⟩
  simp only [isB, Option.bind_eq_some_iff, Option.map_eq_some_iff] at e2
  obtain ⟨t, ht, b, hb, rfl⟩ := e2
  exact ⟨v, .ty T, .type t, .type T, b, rfl, .ty T, ty_of st1.le r ht, kit_ty hb, q _ H1 W1 st1 k1 (.bl b)⟩
theorem e_isC (h : DE X e m) (hg : Gl X "isinstance") (hm : X.mg "isinstance" = none) (hgx : Gl X x) (hx : X.mg x = some (.ref C)) (it : InsTy X.K C) (hk : ∀ t : String, t ∈ ["NoneType", "bool", "int", "str", "tuple", "list"] → PySem.W.kitOne X.K (.type t) (.ref C) = some false) (hdb : (x == ("__debug__" : Str)) = false := by decide)
    (he : starEach [e, .Name x p2] X.env = (false, eval e X.env) :: starEach [.Name x p2] X.env := by rfl) (he2 : starEach [.Name x p2] X.env = (false, eval (.Name x p2) X.env) :: starEach [] X.env := by rfl) (hpl : (backTo pos (starEach [.Name x p2] X.env)).any (·.1) = false := by rfl) :
    DE X (.Call (.Name "isinstance" p) [e, .Name x p2] [] pos) (bindM m fun d => optM (isC x d)) := PE.imp (pe_callB call_isi hg hm (by decide +kernel) (pa_cons h (pa_cons (pe_glob (v := .ref C) hgx hx rfl hdb) pa_nil he2) he) (by decide) (by decide) he hpl) fun σ H Q ⟨sd, W, z, sd', st, em, q⟩ => by
  obtain ⟨d, s1, e1, em⟩ := bindM_some em
  obtain ⟨e2, rfl⟩ := optM_some em
  refine ⟨sd, W, d, sd', st, e1, fun v H1 W1 st1 k1 r => ?_⟩
  have go : ∀ t, tyD d = some t → t ∈ ["NoneType", "bool", "int", "str", "tuple", "list"] → z = .bl false → ∃ x_1 c t u b, [v, V.ref C] = [x_1, c] ∧ ClsV c u ∧ TyX X.K H1 x_1 t ∧ PySem.W.kitOne X.K t u = some b ∧ Q (.bl b) H1 := fun t ht hm hz =>
    ⟨v, .ref C, .type t, .ref C, false, rfl, .own C, ty_of st1.le r ht, hk t hm, by subst hz; exact q _ H1 W1 st1 k1 (.bl false)⟩
  cases d with
  | ins c fs =>
    simp only [isC] at e2
    split at e2
    · rename_i hc
      cases e2
      subst hc
      cases r with
      | ins m1 g1 r1 =>
        rw [hx] at m1
        cases m1
        exact ⟨_, .ref C, .ref C, .ref C, true, rfl, .own C, .base (.ins (st1.le _ _ g1) it.cl it.a it.b it.c it.d), by unfold PySem.W.kitOne; simp, q _ H1 W1 st1 k1 (.bl true)⟩
    · cases e2
  | non => cases e2; exact go _ rfl (by simp) rfl
  | bl _ => cases e2; exact go _ rfl (by simp) rfl
  | int _ => cases e2; exact go _ rfl (by simp) rfl
  | str _ => cases e2; exact go _ rfl (by simp) rfl
  | tup _ => cases e2; exact go _ rfl (by simp) rfl
  | lst _ => cases e2; exact go _ rfl (by simp) rfl
  | scr _ => cases e2; exact go _ rfl (by simp) rfl
  | cls _ => cases e2
  | dic _ => cases e2
  | dit _ => cases e2
end
end Fli
set_option Elab.async false
set_option linter.all false
set_option maxRecDepth 100000
set_option maxHeartbeats 4000000
namespace Fli
open PySem PySem.Spec PyProof.Rows L2
variable [HW]

/-! texts in lists and tuples -/
def strsD : List D → Option (List Str)
  | [] => some []
  | .str x :: ds => (strsD ds).map (x :: ·)
  | _ => none
theorem strs_rs {K : PySem.W.Frag} {mg : Str → Option Value} {W : Hp} : ∀ {vs : List V} {ds : List D} {ys : List Str}, DRs K mg W vs ds → strsD ds = some ys → vs = ys.map V.str
  | _, _, _, .nil, h => by cases h; rfl
  | _, _, _, .cons r s, h => by
    cases r <;> simp only [strsD] at h <;> try cases h
    simp only [Option.map_eq_some_iff] at h
    obtain ⟨ys, h, rfl⟩ := h
    rw [strs_rs s h]; rfl
def tixD : D → D → Option D
  | .tup ds, .str z => (strsD ds).bind fun ys => (ys.findIdx? (· == z)).map fun (j : Nat) => D.int (j : Int)
  | _, _ => none
def joinD : D → D → Option D
  | .str a, .lst ds => (strsD ds).bind fun ys => if (ys.map (·.length)).sum + ys.length * a.length ≤ 16777216 then some (.str (Txt.join a ys)) else none
  | .str a, .tup ds => (strsD ds).bind fun ys => if (ys.map (·.length)).sum + ys.length * a.length ≤ 16777216 then some (.str (Txt.join a ys)) else none
  | _, _ => none
def strcD : List D → Option D
  | [.str a] => some (.str a)
  | _ => none
section
variable {X : Cx} {o e : Expr} {apos pos p p2 : Pos} {ma mb m : M D} {x : Str} {pr : List Nat}
theorem e_join (ho : DE X o ma) (he : DE X e mb) (h1 : starEach [e] X.env = [(false, eval e X.env)] := by rfl) (h2 : attributeBase o "join" X.env (eval o X.env) = eval o X.env := by rfl) (h3 : (apos.endLine == pos.line) = true := by rfl) :
    DE X (.Call (.Attribute o "join" apos) [e] [] pos) (mBin joinD ma mb) := PE.imp (pe_join ho he h1 h2 h3) fun σ H Q ⟨sd, W, d, sd', st, em, q⟩ => by
  obtain ⟨a, s1, e1, em⟩ := bindM_some em
  obtain ⟨b, s2, e2, em⟩ := bindM_some em
  obtain ⟨e3, rfl⟩ := optM_some em
  refine ⟨sd, W, a, s1, st, e1, fun v H1 W1 st1 k1 r1 => ?_⟩
  unfold joinD at e3
  split at e3
  · cases r1
    refine ⟨⟨_, rfl⟩, s1, W1, _, sd', st1, e2, fun u H2 W2 st2 k2 r2 => ?_⟩
    simp only [Option.bind_eq_some_iff] at e3
    obtain ⟨ys, h, e3⟩ := e3
    split at e3
    · rename_i hz
      cases e3
      cases r2 with
      | lst s r =>
        have z := strs_rs r h
        subst z
        exact ⟨_, _, ys, rfl, rfl, .inl (.inl (.inl (st2.le _ _ s))), hz, q _ H2 W2 st2 (k1.trans k2) (.str _)⟩
    · cases e3
  · cases r1
    refine ⟨⟨_, rfl⟩, s1, W1, _, sd', st1, e2, fun u H2 W2 st2 k2 r2 => ?_⟩
    simp only [Option.bind_eq_some_iff] at e3
    obtain ⟨ys, h, e3⟩ := e3
    split at e3
    · rename_i hz
      cases e3
      cases r2 with
      | tup s r =>
        have z := strs_rs r h
        subst z
        exact ⟨_, _, ys, rfl, rfl, .inr (st_le st2.le s), hz, q _ H2 W2 st2 (k1.trans k2) (.str _)⟩
    · cases e3
  · cases e3
theorem cd_str {K : PySem.W.Frag} {mg : Str → Option Value} : C1D K mg (fun xs H Q => ∃ a, xs = [.str a] ∧ Q (.str a) H) strcD := C1D.of fun xs z vs H W le hx hf Q q => by
  unfold strcD at hf
  split at hf <;> cases hf
  cases hx with
  | cons h1 h2 => cases h2; cases h1; exact ⟨_, rfl, q _ (.str _)⟩
/-- t.index(x), t a tuple of texts -/
theorem e_tix (ho : DE X o ma) (he : DE X e mb) (hbase : attributeBase o "index" X.env (eval o X.env) = eval o X.env := by rfl)
    (hfew : ((((backTo pos (starEach [e] X.env)).all fun x => !x.1) && (backToKw pos (keywordEach [] X.env)).all fun x => x.1.isSome) && decide (([e].length + ([] : List Keyword).length + if ([] : List Keyword).isEmpty = true then 0 else 1) < 30)) = true := by rfl)
    (hline : (apos.endLine == pos.line) = true := by rfl) (hs : starEach [e] X.env = (false, eval e X.env) :: starEach [] X.env := by rfl) :
    DE X (.Call (.Attribute o "index" apos) [e] [] pos) (mBin tixD ma mb) := ⟨fun pins s σ H Q I ⟨sd, W, d, sd', st, em, q⟩ => by
  obtain ⟨a, s1, e1, em⟩ := bindM_some em
  obtain ⟨b, s2, e2, em⟩ := bindM_some em
  obtain ⟨e3, rfl⟩ := optM_some em
  refine wpAny_Call_method_late hbase hfew hline rfl (thn (ho.run pins s σ H (fun v H1 => ∃ W1, St X.K X.mg s1 σ H1 W1 ∧ Kp sd σ H W s1 σ H1 W1 ∧ DR X.K X.mg W1 v a) I ⟨sd, W, a, s1, st, e1, fun v H1 W1 st1 k1 r1 => ⟨W1, st1, k1, r1⟩⟩) ?_)
  rintro v t1 ⟨x, H1, I1, r1, W1, st1, k1, ra⟩
  unfold tixD at e3
  split at e3
  · rename_i ds z _
    cases ra with
    | @tup a vs _ sa rs =>
      cases r1
      have dn : ∃ ob, t1.heap.get? a = some ob ∧ ob.cls = .type "tuple" ∧ ob.dict = none := by
        rcases sa with ⟨ob, h, f1, f2⟩ | ⟨o, its, n, h1, h2, h3, _⟩
        · exact ⟨ob, (I1.hok _ _ (st1.le _ _ h)).1, f1, f2⟩
        · exact ⟨o, I1.kIn _ _ h1, h2, h3⟩
      obtain ⟨ob, g1, g2, g3⟩ := dn
      refine ⟨"tuple", "tuple.index", PySem.F.plainAttrs_tuple, PySem.F.slot_tuple_index, PySem.F.type_tuple_index, ⟨ob, g1, g2⟩, fun b hb => by cases hb; exact ⟨ob, g1, g3⟩, ?_⟩
      have hA := (pa_cons he (pa_nil (X := X)) hs).run pos pins t1 σ H1 (fun us H2 => ∃ W2 u, us = [u] ∧ St X.K X.mg sd' σ H2 W2 ∧ Kp s1 σ H1 W1 sd' σ H2 W2 ∧ DR X.K X.mg W2 u (.str z)) I1
        ⟨s1, W1, _, sd', st1, e2, fun u H2 W2 st2 k2 r2 => ⟨W2, u, rfl, st2, k2, r2⟩⟩
      rw [hs] at hA ⊢
      refine Calls.callWith_builtin rfl (Calls.evalArgs_plain (thn hA ?_))
      rintro us t2 ⟨ws, H2, I2, r2, W2, u, rfl, st2, k2, ru⟩
      cases ru
      simp only [Option.bind_eq_some_iff, Option.map_eq_some_iff] at e3
      obtain ⟨ys, h, j, hj, rfl⟩ := e3
      have zz := strs_rs rs h
      subst zz
      rw [List.findIdx?_eq_some_iff_getElem] at hj
      obtain ⟨hl, h1, h2⟩ := hj
      refine mt_tup_index pins t2 σ H2 (.ref a) [.str z] _ us Q I2 rfl r2 ⟨a, ys, z, j, rfl, rfl, st_le (k2.le.trans st2.le) sa, ?_, fun m hm e => ?_, q _ H2 W2 st2 (k1.trans k2) (.int _)⟩
      · rw [List.getElem?_eq_getElem hl]
        exact congrArg some (by simpa using h1)
      · obtain ⟨hl', e⟩ := List.getElem?_eq_some_iff.mp e
        have := h2 m hm
        rw [e] at this
        simp at this
  · cases e3⟩
/-! two and three targets at once -/
def parM (i j : Nat) (ms : M (List D)) : MS := fun s => (ms s).bind fun q => match q.1 with
  | [a, b] => some (.nx ((q.2.set i (some (.d a))).set j (some (.d b))))
  | _ => none
def parM3 (i j k : Nat) (ms : M (List D)) : MS := fun s => (ms s).bind fun q => match q.1 with
  | [a, b, c] => some (.nx (((q.2.set i (some (.d a))).set j (some (.d b))).set k (some (.d c))))
  | _ => none
theorem s_par {i j : Nat} {x y : Str} {a b : Expr} {ms : M (List D)} {px py pt : Pos} {kt k2 pt2} (hi : X.N[i]? = some x) (hj : X.N[j]? = some y) (hij : i ≠ j) (hx : X.env.scope.names.lookup x = some .local) (hy : X.env.scope.names.lookup y = some .local) (ha : LA X [a, b] ms) (h1 : i ∉ pr) (h2 : j ∉ pr) (hc : X.calm = true) (hN : X.N.Nodup)
    (hw : swappedStores [.Tuple [.Name x px, .Name y py] kt pt] (.Tuple [a, b] k2 pt2) X.env = pure (some [x, y]) := by rfl)
    (hs : swapsWithSole [.Tuple [.Name x px, .Name y py] kt pt] (.Tuple [a, b] k2 pt2) pos.line X.env = pure false := by rfl) :
    SE X pr (.Assign [.Tuple [.Name x px, .Name y py] kt pt] (.Tuple [a, b] k2 pt2) pos) (parM i j ms) := PS.imp (ps_par hc hN hi hj hij hx hy ha hw hs) fun D σ H ⟨sd, W, out, st, em, q⟩ => by
  simp only [parM, Option.bind_eq_some_iff] at em
  obtain ⟨⟨xs, s1⟩, e1, em⟩ := em
  refine ⟨sd, W, xs, s1, st, e1, fun vs H1 W1 st1 k1 r1 => ?_⟩
  split at em
  · rename_i a b hxs
    cases em
    have hxs : xs = [a, b] := hxs
    subst hxs
    cases r1 with
    | cons ra r1 =>
      cases r1 with
      | cons rb r1 =>
        cases r1
        obtain ⟨g1, g2⟩ := st1.setD ra i
        obtain ⟨g3, g4⟩ := g1.setD rb j
        exact ⟨_, _, rfl, q _ H1 W1 g3 ((k1.trans g2).trans g4) ((pr_set h1).trans (pr_set h2))⟩
  · cases em
theorem s_par3 {i j l : Nat} {x y z : Str} {a b c : Expr} {ms : M (List D)} {px py pz pt : Pos} {kt k2 pt2} (hi : X.N[i]? = some x) (hj : X.N[j]? = some y) (hl : X.N[l]? = some z) (hij : i ≠ j) (hil : i ≠ l) (hjl : j ≠ l) (hx : X.env.scope.names.lookup x = some .local) (hy : X.env.scope.names.lookup y = some .local) (hz : X.env.scope.names.lookup z = some .local) (ha : LA X [a, b, c] ms) (h1 : i ∉ pr) (h2 : j ∉ pr) (h3 : l ∉ pr) (hc : X.calm = true) (hN : X.N.Nodup)
    (hw : swappedStores [.Tuple [.Name x px, .Name y py, .Name z pz] kt pt] (.Tuple [a, b, c] k2 pt2) X.env = pure (some [x, y, z]) := by rfl)
    (hs : swapsWithSole [.Tuple [.Name x px, .Name y py, .Name z pz] kt pt] (.Tuple [a, b, c] k2 pt2) pos.line X.env = pure false := by rfl) :
    SE X pr (.Assign [.Tuple [.Name x px, .Name y py, .Name z pz] kt pt] (.Tuple [a, b, c] k2 pt2) pos) (parM3 i j l ms) := PS.imp (ps_par3 hc hN hi hj hl hij hil hjl hx hy hz ha hw hs) fun D σ H ⟨sd, W, out, st, em, q⟩ => by
  simp only [parM3, Option.bind_eq_some_iff] at em
  obtain ⟨⟨xs, s1⟩, e1, em⟩ := em
  refine ⟨sd, W, xs, s1, st, e1, fun vs H1 W1 st1 k1 r1 => ?_⟩
  split at em
  · rename_i a b c hxs
    cases em
    have hxs : xs = [a, b, c] := hxs
    subst hxs
    cases r1 with
    | cons ra r1 =>
      cases r1 with
      | cons rb r1 =>
        cases r1 with
        | cons rc r1 =>
          cases r1
          obtain ⟨g1, g2⟩ := st1.setD ra i
          obtain ⟨g3, g4⟩ := g1.setD rb j
          obtain ⟨g5, g6⟩ := g3.setD rc l
          exact ⟨_, _, _, rfl, q _ H1 W1 g5 (((k1.trans g2).trans g4).trans g6) (((pr_set h1).trans (pr_set h2)).trans (pr_set h3))⟩
  · cases em
end
/-! an own object becomes data, or is handed back -/
def frzN (i : Nat) : M D := fun s => match s[i]? with
  | some (some (.own o)) => some (o.d, s.set i (some (.d o.d)))
  | some (some (.d d)) => some (d, s)
  | _ => none
theorem St.frz {K : PySem.W.Frag} {mg : Str → Option Value} {sd : S} {σ : L2.St} {H W : Hp} {i : Nat} {o : O} (st : St K mg sd σ H W) (e : sd[i]? = some (some (.own o))) :
    ∃ a W', σ[i]? = some (some (.ref a)) ∧ St K mg (sd.set i (some (.d o.d))) σ H W' ∧ Kp sd σ H W (sd.set i (some (.d o.d))) σ H W' ∧ DR K mg W' (.ref a) o.d := by
  obtain ⟨a, ea, w, r⟩ := st.own i o e
  have hi : i < sd.length := (List.getElem?_eq_some_iff.mp e).1
  have ow : Own sd σ a := ⟨i, o, e, ea⟩
  have go : ∀ u, H a = some u → DR K mg (upd W a u) (.ref a) o.d → ∃ b W', σ[i]? = some (some (.ref b)) ∧ St K mg (sd.set i (some (.d o.d))) σ H W' ∧ Kp sd σ H W (sd.set i (some (.d o.d))) σ H W' ∧ DR K mg W' (.ref b) o.d := by
    intro u hu rd
    have back : ∀ (j : Nat) (v : O), (sd.set i (some (A.d o.d)))[j]? = some (some (A.own v)) → i ≠ j ∧ sd[j]? = some (some (A.own v)) := fun j v h => by
      by_cases z : i = j
      · subst z; rw [List.getElem?_set_self hi] at h; cases h
      · rw [List.getElem?_set_ne z] at h; exact ⟨z, h⟩
    refine ⟨a, upd W a u, ea, ⟨fun x y z => ?_, by rw [List.length_set]; exact st.len, fun j d h => ?_, fun j v h => ?_, fun j k v v' x h1 h2 => ?_⟩, ⟨Le.upd w, fun x y h _ => h, fun x h h' n => ?_, fun x ⟨j, v, h1, h2⟩ => ?_, fun x h => h⟩, rd⟩
    · by_cases q : x = a
      · subst q; rw [upd_same] at z; rw [← z]; exact hu
      · rw [upd_ne q] at z; exact st.le x y z
    · by_cases z : i = j
      · subst z
        rw [List.getElem?_set_self hi] at h; cases h
        exact ⟨_, ea, rd⟩
      · rw [List.getElem?_set_ne z] at h
        obtain ⟨v, e1, r1⟩ := st.dat j d h
        exact ⟨v, e1, r1.le (Le.upd w)⟩
    · obtain ⟨z, h⟩ := back j v h
      obtain ⟨x, e1, w1, r1⟩ := st.own j v h
      have ne : x ≠ a := fun q => z (st.inj i j o v a e h ea (q ▸ e1))
      refine ⟨x, e1, by rw [upd_ne ne]; exact w1, ?_⟩
      cases v with
      | lst ds => obtain ⟨vs, r1, r2⟩ := r1; exact ⟨vs, r1, r2.le (Le.upd w)⟩
      | obj cc fs => obtain ⟨C, dx, gs, r0, r1, r2⟩ := r1; exact ⟨C, dx, gs, r0, r1, r2.le (Le.upd w)⟩
      | dic kvs => obtain ⟨gs, r1, r2⟩ := r1; exact ⟨gs, r1, r2.le (Le.upd w)⟩
      | dit kvs => obtain ⟨gs, r1, r2⟩ := r1; exact ⟨gs, r1, r2.le (Le.upd w)⟩
    · obtain ⟨_, h1⟩ := back j v h1
      obtain ⟨_, h2⟩ := back k v' h2
      exact st.inj j k v v' x h1 h2
    · have ne : x ≠ a := fun z => n (z ▸ ow)
      rw [upd_ne ne]; exact h
    · obtain ⟨_, h1⟩ := back j v h1
      exact .inl ⟨j, v, h1, h2⟩
  cases o with
  | lst ds =>
    obtain ⟨vs, r1, r2⟩ := r
    exact go _ r1 (.lst upd_same (r2.le (Le.upd w)))
  | obj c fs =>
    obtain ⟨C, dx, gs, r0, r1, r2⟩ := r
    exact go _ r1 (.ins r0 upd_same (r2.le (Le.upd w)))
  | dic kvs =>
    obtain ⟨gs, r1, r2⟩ := r
    exact go _ r1 (.dic upd_same (r2.le (Le.upd w)))
  | dit kvs =>
    obtain ⟨gs, r1, r2⟩ := r
    exact go _ r1 (.dit upd_same (r2.le (Le.upd w)))
section
variable {X : Cx} {pos p2 : Pos} {x : Str} {pr : List Nat}
theorem e_frzN (i : Nat) (hn : PE X (.Name x p2) (tVar i)) : DE X (.Name x p2) (frzN i) := PE.imp hn fun σ H Q ⟨sd, W, d, sd', st, em, q⟩ => by
  unfold frzN at em
  split at em
  · rename_i o e
    cases em
    obtain ⟨a, W', ea, g1, g2, r⟩ := st.frz e
    exact ⟨_, ea, q _ H W' g1 g2 r⟩
  · rename_i d' e
    cases em
    obtain ⟨v, ev, r⟩ := st.dat i _ e
    exact ⟨v, ev, q v H W st Kp.refl r⟩
  · cases em
/-- return x, x's object being its own -/
def retN (pr : List Nat) (i : Nat) : MS := fun s => if pr.all (fun j => (slotO j s).isSome) = true then (slotO i s).map fun o => .ro o (s.set i none) else none
theorem s_retN (i : Nat) (hn : PE X (.Name x p2) (tVar i)) (hp : i ∉ pr) : SE X pr (.Return (some (.Name x p2)) pos) (retN pr i) := PS.imp (ps_ret hn) fun D σ H ⟨sd, W, out, st, em, q⟩ => by
  unfold retN at em
  split at em
  · rename_i hall
    simp only [Option.map_eq_some_iff] at em
    obtain ⟨o, e, rfl⟩ := em
    have e := slotO_some e
    obtain ⟨a, ea, w, r⟩ := st.own i o e
    have hi : i < sd.length := (List.getElem?_eq_some_iff.mp e).1
    have back : ∀ (j : Nat) (v : A), (sd.set i none)[j]? = some (some v) → i ≠ j ∧ sd[j]? = some (some v) := fun j v h => by
      by_cases z : i = j
      · subst z; rw [List.getElem?_set_self hi] at h; cases h
      · rw [List.getElem?_set_ne z] at h; exact ⟨z, h⟩
    refine ⟨_, ea, q a σ H W ⟨st.le, by rw [List.length_set]; exact st.len, fun j d h => st.dat j d (back j _ h).2, fun j v h => st.own j v (back j _ h).2, fun j k u v x h1 h2 => st.inj j k u v x (back j _ h1).2 (back k _ h2).2⟩
      ⟨Le.refl _, fun x y h _ => h, fun x h _ _ => h, fun x ⟨j, v, h1, h2⟩ => .inl ⟨j, v, (back j _ h1).2, h2⟩, fun x h => h⟩ Pr.refl ⟨w, r⟩ (fun ⟨j, v, h1, h2⟩ => ?_) (.inr ⟨⟨i, o, e, ea⟩, fun j hj h => ?_⟩)⟩
    · obtain ⟨z, h1⟩ := back j _ h1
      exact z (st.inj i j o v a e h1 ea h2)
    · have hs := List.all_eq_true.mp hall j hj
      cases q2 : slotO j sd with
      | none => rw [q2] at hs; cases hs
      | some u =>
        have := st.inj i j o u a e (slotO_some q2) ea h
        exact hp (this ▸ hj)
  · cases em
end
end Fli
set_option Elab.async false
set_option linter.all false
set_option maxRecDepth 100000
set_option maxHeartbeats 4000000
namespace Fli
open PySem PySem.Spec PyProof.Rows L2
variable [HW]

/-! len, ==, truth, str of own objects -/
section
variable {X : Cx} {k : Nat} {f : Addr} {fd : FuncData} {ps : List Str} {sp : Sp}
/-- a def called by the machine itself -/
theorem run_at {A : Around} {pins : List (Addr × Obj)} {s : Shared} {σ : L2.St} {H : Hp} {us : List Value} {vs : List V} {Q : VK} {E : Value → Shared → Prop} (F : FnOk X.prog X.w X.K X.mg X.base CX0 k f fd ps sp) (hr : Room k A) (fr : A.frames = X.A.frames) (hb : Binds X.K fd ps [])
    (I : Inv X pins σ H s) (r : Vals vs us) (h : sp vs H Q E0) : wpAny (model X.prog X.w) A (call (.ref f) us) (EP X pins σ Q) E s := by
  have hl : us.length = ps.length := by rw [← r.length]; exact F.len _ _ _ _ h
  have hbind := hb s us I.kIn (by rw [List.append_nil]; exact hl)
  rw [List.append_nil] at hbind
  have e := I.env0
  have e0 : Env0 X.prog X.w X.K X.mg X.base A X.stack s H := ⟨by rw [fr]; exact e.frames, e.mod, e.bs, e.bsz, e.funs, e.frf, e.hok, e.bare⟩
  refine wpAny_call (codeAny_mono (F.run A X.stack s H ⟨us, []⟩ us vs Q E0 hr e0 hbind r h) ?_)
  intro res s2 hres
  cases res with
  | error er => exact hres.elim
  | ok fl => cases fl with
    | ret u => exact I.after hres
    | next => exact hres.elim
    | brk => exact hres.elim
    | cont => exact hres.elim
theorem inst_at {pins : List (Addr × Obj)} {s : Shared} {σ : L2.St} {H : Hp} {a C dx : Addr} {gs : List (Str × V)} (I : Inv X pins σ H s) (h : H a = some (.ins C dx gs)) : ∃ od, PySem.W.InstAt s.heap a (PySem.W.instObj C dx) C (some od) := by
  obtain ⟨mA, J, _⟩ := ins_get I.hok h
  obtain ⟨od, J, _⟩ := J.look
  exact ⟨od, J⟩
end
/-- what a method of one object gives, on data -/
def ownM (n : Nat) (body : MS) (as : List D) : Option D := (callR n body (as.map .d)).bind fun o => match o with
  | .rd d _ => some d
  | .nx _ => some .non
  | _ => none
theorem t_own {K : PySem.W.Frag} {mg : Str → Option Value} {N ps : List Str} {n : Nat} {body : MS} {sd : S} {σ : L2.St} {H W : Hp} {vs : List V} {as : List D} {d : D} {Q : VK} {E : XK} (hn : N.length = n) (hl : as.length = ps.length) (st : St K mg sd σ H W) (r : DRs K mg W vs as) (em : ownM n body as = some d)
    (q : ∀ v H' W', St K mg sd σ H' W' → Kp sd σ H W sd σ H' W' → DR K mg W' v d → Q v H') : spM K mg N ps [] body vs H Q E := by
  simp only [ownM, Option.bind_eq_some_iff] at em
  obtain ⟨o, e2, em⟩ := em
  refine ⟨by rw [r.len]; exact hl, startS n (as.map .d), W, o, st.call hn r, e2, ?_⟩
  cases o with
  | rd d' s2 =>
    cases em
    intro v σ2 H2 W2 st2 k2 _ r
    obtain ⟨g1, g2⟩ := st.after k2 st2 fun a => noown_start
    exact q v H2 W2 g1 g2 r
  | nx s2 =>
    cases em
    intro σ2 H2 W2 st2 k2 _
    obtain ⟨g1, g2⟩ := st.after k2 st2 fun a => noown_start
    exact q _ H2 W2 g1 g2 .non
  | _ => cases em
def insC (c : Str) : D → Option D
  | .ins c' fs => if c' = c then some (.ins c' fs) else none
  | _ => none
theorem insC_some {c : Str} {d z : D} (h : insC c d = some z) : z = d ∧ ∃ fs, d = .ins c fs := by
  unfold insC at h
  split at h
  · split at h
    · rename_i hc
      cases h; subst hc; exact ⟨rfl, _, rfl⟩
    · cases h
  · cases h
theorem ins_ref {K : PySem.W.Frag} {mg : Str → Option Value} {W : Hp} {v : V} {c : Str} {fs : List (Str × D)} {C : Addr} (hm : mg c = some (.ref C)) (r : DR K mg W v (.ins c fs)) : ∃ a dx gs, v = .ref a ∧ W a = some (.ins C dx gs) ∧ DFs K mg W gs fs := by
  cases r with
  | ins m1 g1 r1 =>
    rw [hm] at m1
    cases m1
    exact ⟨_, _, _, rfl, g1, r1⟩
def lenC (n : Nat) (body : MS) (c : Str) (x : D) : Option D := (insC c x).bind fun x => (ownM n body [x]).bind fun r => match r with
  | .int m => if 0 ≤ m ∧ m < 2 ^ 63 then some (.int m) else none
  | _ => none
def strC (n : Nat) (body : MS) (c : Str) (x : D) : Option D := (insC c x).bind fun x => (ownM n body [x]).bind fun r => match r with
  | .str m => some (.str m)
  | _ => none
def eqC (n : Nat) (body : MS) (c : Str) (neg : Bool) (ok : D → Bool) (x y : D) : Option D := (insC c x).bind fun x => if ok y = true then (ownM n body [x, y]).bind fun r => match r with
  | .bl b => some (.bl (neg ^^ b))
  | _ => none else none
def truC (n : Nat) (body : MS) (c : Str) (x : D) : Option Bool := (lenC n body c x).bind fun r => match r with
  | .int m => some (m != 0)
  | _ => none
section
variable {X : Cx} {k n : Nat} {f C : Addr} {fd : FuncData} {N ps : List Str} {body : MS} {c : Str} {e a b : Expr} {p pos : Pos} {m ma mb : M D}
theorem call_lenC {pins : List (Addr × Obj)} {s : Shared} {σ : L2.St} {H W : Hp} {sd : S} {A : Around} {v : V} {u : Value} {x z : D} {Q : VK} {E : Value → Shared → Prop} (F : FnOk X.prog X.w X.K X.mg X.base CX0 k f fd ps (spM X.K X.mg N ps [] body)) (hr : Room (k + 1) A) (fr : A.frames = X.A.frames) (hb : Binds X.K fd ps []) (hn : N.length = n) (h1 : ps.length = 1)
    (hm : X.mg c = some (.ref C)) (hs : PySem.W.findIn X.K (.ref C) "__len__" = some (some (.ref f))) (hf : PySem.W.isFn X.K (.ref f) = true) (I : Inv X pins σ H s) (st : St X.K X.mg sd σ H W) (r : DR X.K X.mg W v x) (ru : RelV v u) (em : lenC n body c x = some z)
    (q : ∀ w H' W', St X.K X.mg sd σ H' W' → Kp sd σ H W sd σ H' W' → DR X.K X.mg W' w z → Q w H') : wpAny (model X.prog X.w) A (call (.builtin "len") [u]) (EP X pins σ Q) E s := by
  simp only [lenC, Option.bind_eq_some_iff] at em
  obtain ⟨y, hy, r1, h2, em⟩ := em
  obtain ⟨rfl, fs, rfl⟩ := insC_some hy
  obtain ⟨a, dx, gs, rfl, g1, g2⟩ := ins_ref hm r
  cases ru
  obtain ⟨od, J⟩ := inst_at I (st.le _ _ g1)
  obtain ⟨fm, hF⟩ := I.fr
  cases r1 with
  | int mm =>
    dsimp only at em
    split at em
    · rename_i hz
      cases em
      refine PySem.W.len_K hF I.ok.mod.kin J hs hf (wpAny_mono (run_at F (Room.in1 hr) fr hb I (show Vals [.ref a] [.ref a] from .cons rfl .nil) (t_own (Q := fun w H' => w = .int mm ∧ ∃ W', St X.K X.mg sd σ H' W' ∧ Kp sd σ H W sd σ H' W') hn (by rw [h1]; rfl) st (.cons r .nil) h2 fun w H' W' st' k' r' => by
        cases r'; exact ⟨rfl, W', st', k'⟩)) ?_ fun _ _ z => z)
      rintro u s' ⟨w, H', I', rw, rfl, W', st', k'⟩
      obtain ⟨t, rfl⟩ := rw
      exact ⟨hz, .int mm, H', I'.tok _, ⟨_, rfl⟩, q _ H' W' st' k' (.int _)⟩
    · cases em
  | _ => cases em
theorem e_lenC (F : FnOk X.prog X.w X.K X.mg X.base CX0 k f fd ps (spM X.K X.mg N ps [] body)) (hr : Room (k + 1) X.A) (hb : Binds X.K fd ps []) (hn : N.length = n) (h1 : ps.length = 1) (hm : X.mg c = some (.ref C)) (hs : PySem.W.findIn X.K (.ref C) "__len__" = some (some (.ref f))) (hf : PySem.W.isFn X.K (.ref f) = true)
    (h : DE X e m) (hg : Gl X "len") (hl : X.mg "len" = none) (he : starEach [e] X.env = (false, eval e X.env) :: starEach [] X.env := by rfl) (hpl : (backTo pos (starEach [] X.env)).any (·.1) = false := by rfl) : DE X (.Call (.Name "len" p) [e] [] pos) (bindM m fun d => optM (lenC n body c d)) := ⟨fun pins s σ H Q I ⟨sd, W, z, sd', st, em, q⟩ => by
  obtain ⟨d, s1, e1, em⟩ := bindM_some em
  obtain ⟨e2, rfl⟩ := optM_some em
  refine wpAny_Call_Name_kw (ld_blt I hg hl PySem.boot_len (PyProof.Rows.callWith_builtin1 (thn ((pa_cons h (pa_nil (X := X)) he).run pos pins s σ H (fun us H1 => ∃ W1 v, us = [v] ∧ St X.K X.mg sd' σ H1 W1 ∧ Kp sd σ H W sd' σ H1 W1 ∧ DR X.K X.mg W1 v d) I ⟨sd, W, d, sd', st, e1, fun v H1 W1 st1 k1 r1 => ⟨W1, v, rfl, st1, k1, r1⟩⟩) ?_) he hpl))
  rintro us s1 ⟨ws, H1, I1, rv, W1, v, rfl, st1, k1, r1⟩
  obtain ⟨u, rfl, ru⟩ := vals1 rv
  exact call_lenC F hr rfl hb hn h1 hm hs hf I1 st1 r1 ru e2 fun w H2 W2 st2 k2 r2 => q w H2 W2 st2 (k1.trans k2) r2⟩
end
end Fli
set_option Elab.async false
set_option linter.all false
set_option maxRecDepth 100000
set_option maxHeartbeats 4000000
namespace Fli
open PySem PySem.Spec PyProof.Rows L2
variable [HW]

/-! operations on data of any kind, lists among it (what they give is data) -/
def addL : D → D → Option D
  | .lst as, .lst bs => if as.length + bs.length ≤ sizeLine then some (.lst (as ++ bs)) else none
  | a, b => addD a b
def slL (x : D) (lo hi : Option Int) : Option D := match x with
  | .lst ds => some (.lst (cutD ds lo hi))
  | .scr ns => some (.lst ((cutD ns lo hi).map .int))
  | .tup ds => some (.tup (cutD ds lo hi))
  | .str z => if z.length ≤ sizeLine then some (.str (cutS z lo hi)) else none
  | _ => none
def negD : D → Option D
  | .int i => some (.int (-i))
  | _ => none
section
variable {X : Cx} {a e : Expr} {pos p2 : Pos} {ma m : M D} {lo hi : Option Expr} {ml mh : M (Option Int)}
def rAddL (K : PySem.W.Frag) : R2 := orR (rAddD K) rCat
theorem op_addL : OpR X (binaryOp .Add) (rAddL X.K) := op_or op_addA op_cat
theorem rd_addL {K : PySem.W.Frag} {mg : Str → Option Value} : R2D K mg (rAddL K) addL := by
  intro x y z vx vy sd σ H W st hx hy hf Q q
  unfold addL at hf
  split at hf
  · split at hf
    · rename_i h
      cases hf
      cases hx with
      | lst sx rx =>
        cases hy with
        | lst sy ry =>
          have l1 := rx.len
          have l2 := ry.len
          refine .inr ⟨_, _, _, _, rfl, rfl, st.le _ _ sx, st.le _ _ sy, by rw [l1, l2]; exact h, fun p hp => ?_⟩
          obtain ⟨g1, g2⟩ := st.newV hp (.lst _)
          exact q _ _ _ g1 g2 (.lst upd_same ((rx.app ry).le (Le.upd (st.free hp))))
    · cases hf
  · exact .inl (rd_add x y z vx vy sd σ H W st hx hy hf Q q)
theorem e_neg (h : DE X e m) : DE X (.UnaryOp .USub e pos) (bindM m fun d => optM (negD d)) := PE.imp (pe_un un_neg h) fun σ H Q ⟨sd, W, z, sd', st, em, q⟩ => by
  obtain ⟨d, s1, e1, em⟩ := bindM_some em
  obtain ⟨e2, rfl⟩ := optM_some em
  refine ⟨sd, W, d, sd', st, e1, fun v H1 W1 st1 k1 r => ?_⟩
  cases d <;> cases e2
  cases r
  exact ⟨_, rfl, q _ H1 W1 st1 k1 (.int _)⟩
def rSlA' (K : PySem.W.Frag) : V → Option Int → Option Int → Hp → VK → Prop := fun x lo hi H Q => rSlL K x lo hi H Q ∨ rSlF K x lo hi H Q ∨ rSlS x lo hi H Q
theorem sl_any : SlR X (rSlA' X.K) := by
  intro pins s σ H x v vl vu lo hi sl Q I rx hs pl pu h
  rcases h with h | h | h
  · exact sl_list pins s σ H x v vl vu lo hi sl Q I rx hs pl pu h
  · exact sl_tupF pins s σ H x v vl vu lo hi sl Q I rx hs pl pu h
  · exact sl_str pins s σ H x v vl vu lo hi sl Q I rx hs pl pu h
theorem e_slA (ha : DE X a ma) (hl : IP X lo ml) (hh : IP X hi mh) : DE X (.Subscript a (.Slice lo hi none p2) pos) (slM slL ma ml mh) := PE.imp (pe_slice sl_any ha hl hh) fun σ H Q ⟨sd, W, d, sd', st, em, q⟩ => by
  obtain ⟨x, s1, e1, em⟩ := bindM_some em
  obtain ⟨l, s2, e2, em⟩ := bindM_some em
  obtain ⟨u, s3, e3, em⟩ := bindM_some em
  obtain ⟨e4, rfl⟩ := optM_some em
  refine ⟨sd, W, x, s1, st, e1, fun v H1 W1 st1 k1 r1 => ⟨s1, W1, l, s2, st1, e2, fun H2 W2 st2 k2 => ⟨s2, W2, u, sd', st2, e3, fun H3 W3 st3 k3 => ?_⟩⟩⟩
  have r3 := (r1.le k2.le).le k3.le
  have kk := (k1.trans k2).trans k3
  cases r3 with
  | @tup _ _ ds s r =>
    cases e4
    refine .inr (.inl ⟨_, _, rfl, st_le st3.le s, fun z => ?_, fun _ p ob hp ho => ?_⟩)
    · refine q _ H3 W3 st3 kk (.tup s ?_)
      have : cutD ds l u = ds := by
        unfold cutD
        rw [r.len] at z
        rw [z.1, z.2]; simp
      rw [this]; exact r
    · obtain ⟨g1, g2⟩ := st3.newV hp (.frz ob (.tup _))
      exact q _ _ _ g1 (kk.trans g2) (.tup (.inl ⟨ob, upd_same, ho⟩) ((cut_rs r).le (Le.upd (st3.free hp))))
  | lst s r =>
    cases e4
    refine .inl ⟨_, _, rfl, .inl (.inl (st3.le _ _ s)), fun p hp => ?_⟩
    obtain ⟨g1, g2⟩ := st3.newV hp (.lst _)
    exact q _ _ _ g1 (kk.trans g2) (.lst upd_same ((cut_rs r).le (Le.upd (st3.free hp))))
  | @scr _ ns s =>
    cases e4
    refine .inl ⟨_, _, rfl, sl_le st3.le s, fun p hp => ?_⟩
    obtain ⟨g1, g2⟩ := st3.newV hp (.lst (cutV (ns.map V.int) l u))
    have : cutV (ns.map V.int) l u = (cutD ns l u).map V.int := by
      unfold cutV cutD
      rw [List.length_map, List.map_take, List.map_drop]
    refine q _ _ _ g1 (kk.trans g2) (.lst upd_same ?_)
    rw [this]
    exact ints_rs
  | str z =>
    simp only [slL] at e4
    split at e4 <;> cases e4
    exact .inr (.inr ⟨_, rfl, by assumption, q _ H3 W3 st3 kk (.str _)⟩)
  | _ => cases e4

def blD : D → Option Bool
  | .bl b => some b
  | _ => none
theorem t_test {t : TE} {m : M D} {K : PySem.W.Frag} {mg : Str → Option Value} (h : ∀ σ H Q, tD K mg m σ H Q → t σ H Q) {σ : L2.St} {H : Hp} {Q : Bool → Hp → Prop} (q : tB K mg (bindM m fun d => optM (blD d)) σ H Q) : tTest t σ H Q := by
  obtain ⟨sd, W, k, sd', st, em, q⟩ := q
  obtain ⟨d, s1, e1, em⟩ := bindM_some em
  obtain ⟨e2, rfl⟩ := optM_some em
  refine h σ H _ ⟨sd, W, d, sd', st, e1, fun v H1 W1 st1 k1 r => ?_⟩
  cases d <;> cases e2
  cases r
  exact ⟨_, rfl, q H1 W1 st1 k1⟩
theorem b_cmp {b : Expr} {op : CmpOp} {r : R2} {f : D → D → Option D} {mb : M D} (ho : OpR X (compareOp op) r) (hr : R2D X.K X.mg r f) (ha : DE X a ma) (hb : DE X b mb) (hm : behindInMarks op b = false) : BT X (.Compare a [op] [b] pos) (bindM (mBin f ma mb) fun d => optM (blD d)) :=
  PT.imp (pt_cmpR ho ha hb hm) fun _ _ _ q => t_test (fun _ _ _ h => t_bin hr h) q
theorem b_chain {b c : Expr} {op op' : CmpOp} {r r' : R2} {f g : D → D → Option D} {mb mc : M D} (ho : OpR X (compareOp op) r) (ho' : OpR X (compareOp op') r') (hr : R2D X.K X.mg r f) (hr' : R2D X.K X.mg r' g) (ha : DE X a ma) (hb : DE X b mb) (hc : DE X c mc)
    (hm : lastMarks [op, op'] [b, c] = false := by rfl) : BT X (.Compare a [op, op'] [b, c] pos) (bindM (chM f g ma mb mc) fun d => optM (blD d)) :=
  PT.imp (pt_chain ho ho' ha hb hc hm) fun _ _ _ q => t_test (fun _ _ _ h => t_chain hr hr' h) q

section
variable {elt tg iter b1 : Expr} {ifs : List Expr} {scope : Scope} {own : List (Str × Nat)} {p p3 py spos : Pos} {g : TG} {asg : D → S → Option S} {c : M Bool} {i : Nat} {y : Str} {vs pr : List Nat} {ms : M (List D)}
/-- y = [e for x in ..], y a local name -/
theorem s_setLc1 (hvs : own.map (fun x => x.2) = vs) (hc : X.calm = true) (hN : X.N.Nodup) (hi : LA X [b1] ms) (hr : Gl X "range") (hm : X.mg "range" = none) (ok : BlkOk X.N X.env.scope scope own)
    (hg : ∀ (s : Shared) (H : Hp) (C : Addr) (cl : List (Str × Addr)) (fp : List Addr), PG (X.blk s H scope (compEnvC scope cl C X.env) fp) tg g) (hf : TGk X.K X.mg [] g asg) (hw : TGw vs g)
    (ht : ∀ (s : Shared) (H : Hp) (C : Addr) (cl : List (Str × Addr)) (fp : List Addr), PTs (X.blk s H scope (compEnvC scope cl C X.env) fp) ifs (Fli.tB X.K X.mg c))
    (he : ∀ (s : Shared) (H : Hp) (C : Addr) (cl : List (Str × Addr)) (fp : List Addr), PE (X.blk s H scope (compEnvC scope cl C X.env) fp) elt (tD X.K X.mg m)) (hy : X.N[i]? = some y) (hyl : X.env.scope.names.lookup y = some .local) (hp : i ∉ pr)
    (hs : starEach [b1] X.env = [(false, eval b1 X.env)] := by rfl) (hsw : swapsWith (.ListComp elt [⟨tg, .Call (.Name "range" p) [b1] [] p3, ifs, 0⟩] scope pos) (some (.Name y py)) spos.line X.env = pure true := by exact sw_true rfl rfl rfl (by decide +kernel)) :
    SE X pr (.Assign [.Name y py] (.ListComp elt [⟨tg, .Call (.Name "range" p) [b1] [] p3, ifs, 0⟩] scope pos) spos) (asgO (cplR ms rng1 vs asg c m) i) := by
  subst hvs
  exact PS.imp (ps_setLc hc hN hy hyl hsw (pi_range1 hr hm hi hs) ok hg ht he) fun D σ H h => t_cpl1 hf hw (t_asgO hp h)
theorem s_setLcL {mi : M D} (hvs : own.map (fun x => x.2) = vs) (hc : X.calm = true) (hN : X.N.Nodup) (hi : DE X iter mi) (ok : BlkOk X.N X.env.scope scope own)
    (hg : ∀ (s : Shared) (H : Hp) (C : Addr) (cl : List (Str × Addr)) (fp : List Addr), PG (X.blk s H scope (compEnvC scope cl C X.env) fp) tg g) (hf : TGk X.K X.mg [] g asg) (hw : TGw vs g)
    (ht : ∀ (s : Shared) (H : Hp) (C : Addr) (cl : List (Str × Addr)) (fp : List Addr), PTs (X.blk s H scope (compEnvC scope cl C X.env) fp) ifs (Fli.tB X.K X.mg c))
    (he : ∀ (s : Shared) (H : Hp) (C : Addr) (cl : List (Str × Addr)) (fp : List Addr), PE (X.blk s H scope (compEnvC scope cl C X.env) fp) elt (tD X.K X.mg m)) (hy : X.N[i]? = some y) (hyl : X.env.scope.names.lookup y = some .local) (hp : i ∉ pr)
    (hfs : ∀ (x : Value), foldedSetIterable iter X.env x = pure x := by intro _; rfl) (hsw : swapsWith (.ListComp elt [⟨tg, iter, ifs, 0⟩] scope pos) (some (.Name y py)) spos.line X.env = pure true := by exact sw_true rfl rfl rfl (by decide +kernel)) :
    SE X pr (.Assign [.Name y py] (.ListComp elt [⟨tg, iter, ifs, 0⟩] scope pos) spos) (asgO (cplL mi vs asg c m) i) := by
  subst hvs
  have h1 := ps_setLc hc hN hy hyl hsw (pi_list (tg := tg) hi) ok hg ht he hfs
  have h2 := ps_setLc hc hN hy hyl hsw (pi_tup (tg := tg) hi) ok hg ht he hfs
  have h3 := ps_setLc hc hN hy hyl hsw (pi_str (tg := tg) hi) ok hg ht he hfs
  refine ⟨fun pins s σ H D I h => ?_⟩
  rcases t_cplL hf hw (t_asgO hp h) with h | h | h
  · exact h1.run pins s σ H D I h
  · exact h2.run pins s σ H D I h
  · exact h3.run pins s σ H D I h
end
end
end Fli
set_option Elab.async false
set_option linter.all false
set_option maxRecDepth 100000
set_option maxHeartbeats 4000000
namespace Fli
open PySem PySem.Spec PyProof.Rows L2
variable [HW]

def FunX (K : PySem.W.Frag) (mg : Str → Option Value) (x : Str) (st : Stmt) : Prop := ∃ f fd, Fun K x x st f fd ∧ mg x = some (.ref f)
def DefX (P : Program) (w : World) (K : PySem.W.Frag) (mg : Str → Option Value) (base : Heap) (k : Nat) (x : Str) (N ps : List Str) (pr : List Nat) (body : MS) : Prop :=
  ∃ f fd, FnOk P w K mg base CX0 k f fd ps (spM K mg N ps pr body) ∧ mg x = some (.ref f) ∧ PySem.W.keepIn K (.ref f) = true ∧ Binds K fd ps []
section
variable {X : Cx} {k n j : Nat} {N ps : List Str} {body : MS} {x y : Str} {p pos p2 : Pos} {e : Expr} {es : List Expr} {ms : M (List D)}
theorem e_callX (d : DefX X.prog X.w X.K X.mg X.base k x N ps [] body) (hr : Room k X.A) (hg : Gl X x) (hn : N.length = n) (hs : LA X (e :: es) ms) (hl : LenIs ms j) (hj : j = ps.length) (hdb : (x == ("__debug__" : Str)) = false := by decide) (he : starEach (e :: es) X.env = (false, eval e X.env) :: starEach es X.env := by rfl) (hpl : (backTo pos (starEach es X.env)).any (·.1) = false := by rfl) :
    DE X (.Call (.Name x p) (e :: es) [] pos) (callD n body ms []) := by
  obtain ⟨f, fd, F, hm, hk, hb⟩ := d
  exact e_call F hr hg hm hk hb .nil (fun _ => .nil) hn hs hl hj hdb he hpl
theorem o_callX (d : DefX X.prog X.w X.K X.mg X.base k x N ps [] body) (hr : Room k X.A) (hg : Gl X x) (hn : N.length = n) (hs : LA X (e :: es) ms) (hl : LenIs ms j) (hj : j = ps.length) (hdb : (x == ("__debug__" : Str)) = false := by decide) (he : starEach (e :: es) X.env = (false, eval e X.env) :: starEach es X.env := by rfl) (hpl : (backTo pos (starEach es X.env)).any (·.1) = false := by rfl) :
    OE X (.Call (.Name x p) (e :: es) [] pos) (callO n body ms []) := by
  obtain ⟨f, fd, F, hm, hk, hb⟩ := d
  exact o_call F hr hg hm hk hb .nil (fun _ => .nil) hn hs hl hj hdb he hpl
theorem e_lendX (i : Nat) (d : DefX X.prog X.w X.K X.mg X.base k x N ps [0] body) (hr : Room k X.A) (hg : Gl X x) (hn : N.length = n) (hy : PE X (.Name y p2) (tVar i)) (hs : LA X es ms) (hl : LenIs ms j) (hj : j + 1 = ps.length) (hdb : (x == ("__debug__" : Str)) = false := by decide) (he : starEach (.Name y p2 :: es) X.env = (false, eval (.Name y p2) X.env) :: starEach es X.env := by rfl) (hpl : (backTo pos (starEach es X.env)).any (·.1) = false := by rfl) :
    DE X (.Call (.Name x p) (.Name y p2 :: es) [] pos) (lendD n body i ms) := by
  obtain ⟨f, fd, F, hm, hk, hb⟩ := d
  exact e_lend i F hr hg hm hk hb hn hy hs hl hj hdb he hpl
theorem o_lendX (i : Nat) (d : DefX X.prog X.w X.K X.mg X.base k x N ps [0] body) (hr : Room k X.A) (hg : Gl X x) (hn : N.length = n) (hy : PE X (.Name y p2) (tVar i)) (hs : LA X es ms) (hl : LenIs ms j) (hj : j + 1 = ps.length) (hdb : (x == ("__debug__" : Str)) = false := by decide) (he : starEach (.Name y p2 :: es) X.env = (false, eval (.Name y p2) X.env) :: starEach es X.env := by rfl) (hpl : (backTo pos (starEach es X.env)).any (·.1) = false := by rfl) :
    OE X (.Call (.Name x p) (.Name y p2 :: es) [] pos) (lendO n body i ms) := by
  obtain ⟨f, fd, F, hm, hk, hb⟩ := d
  exact o_lend i F hr hg hm hk hb hn hy hs hl hj hdb he hpl
end
/-- the built-in names that the module leaves alone -/
structure Txt (K : PySem.W.Frag) (mg : Str → Option Value) : Prop where
  len : mg "len" = none
  int : mg "int" = none
  abs : mg "abs" = none
  range : mg "range" = none
  min : mg "min" = none
  max : mg "max" = none
  tuple : mg "tuple" = none
  list : mg "list" = none
  all : mg "all" = none
  repr : mg "repr" = none
  isinstance : mg "isinstance" = none
  enumerate : mg "enumerate" = none
  str : mg "str" = none
  bool : mg "bool" = none
end Fli
set_option Elab.async false
set_option linter.all false
set_option maxRecDepth 100000
set_option maxHeartbeats 4000000
namespace Fli
open PySem PySem.Spec PyProof.Rows L2
variable [HW]

/-! constants of the module -/
def ConD (K : PySem.W.Frag) (mg : Str → Option Value) (x : Str) (d : D) : Prop := ∃ v u, mg x = some u ∧ RelV v u ∧ ∀ W, DR K mg W v d
theorem con_int {K : PySem.W.Frag} {mg : Str → Option Value} {x : Str} {i : Int} {t : Tok} (h : mg x = some (.int i t)) : ConD K mg x (.int i) := ⟨.int i, _, h, ⟨t, rfl⟩, fun _ => .int i⟩
theorem con_str {K : PySem.W.Frag} {mg : Str → Option Value} {x y : Str} {t : Tok} (h : mg x = some (.str y t)) : ConD K mg x (.str y) := ⟨.str y, _, h, ⟨t, rfl⟩, fun _ => .str y⟩
theorem str_drs {K : PySem.W.Frag} {mg : Str → Option Value} {W : Hp} : ∀ {ys : List Str}, DRs K mg W (ys.map V.str) (ys.map D.str)
  | [] => .nil
  | _ :: _ => .cons (.str _) str_drs
/-- a tuple of texts that the module holds -/
theorem con_tup {K : PySem.W.Frag} {mg : Str → Option Value} {x : Str} {a : Addr} {its : Array Value} {sl : Array (Option Value)} {ys : List Str} (h : mg x = some (.ref a)) (l : K.lookup a = some ⟨.type "tuple", none, .seq its 0, sl⟩) (hz : its.size ≤ sizeLine) (r : Vals (ys.map V.str) its.toList) : ConD K mg x (.tup (ys.map D.str)) :=
  ⟨.ref a, _, h, rfl, fun _ => .tup (.inr ⟨_, its, 0, l, rfl, rfl, rfl, hz, r⟩) str_drs⟩
section
variable {X : Cx} {e a b : Expr} {x : Str} {p pos apos p2 : Pos} {d : D} {ma mb m : M D} {pr : List Nat} {st : Stmt}
theorem ConD.dE (c : ConD X.K X.mg x d) (hg : Gl X x) (hd : (x == ("__debug__" : Str)) = false := by decide) : DE X (.Name x pos) (retM d) := by
  obtain ⟨v, u, h1, h2, h3⟩ := c
  exact e_glob hg h1 h2 h3 hd
/-- a statement that is not reached -/
def stuckM : MS := fun _ => none
theorem s_never : SE X pr st stuckM := PS.imp ps_never fun D σ H ⟨sd, W, out, _, em, _⟩ => nomatch em

/-! methods and operators of own objects -/
def DefM (P : Program) (w : World) (K : PySem.W.Frag) (mg : Str → Option Value) (base : Heap) (k : Nat) (c m : Str) (N ps : List Str) (body : MS) : Prop :=
  ∃ C f fd, mg c = some (.ref C) ∧ Cls K C ∧ FnOk P w K mg base CX0 k f fd ps (spM K mg N ps [] body) ∧ PySem.W.findIn K (.ref C) m = some (some (.ref f)) ∧ PySem.W.isFn K (.ref f) = true ∧ Meth K C m f ∧ Binds K fd ps []
/-- what own == needs besides: no other type stands ahead -/
structure Ahead (K : PySem.W.Frag) (mg : Str → Option Value) (c : Str) : Prop where
  h : ∀ C, mg c = some (.ref C) → ∀ t : String, t ∈ ["NoneType", "bool", "int", "str", "tuple", "list"] → PySem.W.notFirst K C (.type t) = true
theorem type_looks {M : Model} {mg : Str → Option Value} {pins : List (Addr × Obj)} {s : Shared} {σ : L2.St} {H W : Hp} {v : V} {u : Value} {d : D} {t : String} (I : Inv X pins σ H s) (le : Le W H) (r : DR X.K mg W v d) (ru : RelV v u) (ht : tyD d = some t) : PySem.W.Looks M s.heap (typeOf u) (.type t) := by
  have ob : ∀ {a : Addr} {o : Obj} {n : String}, s.heap.get? a = some o → o.cls = .type n → PySem.W.Looks M s.heap (typeOf (.ref a)) (.type n) := fun h hc => by
    rw [← hc]
    exact (PySem.W.Looks.ld h).andThen .now
  cases r with
  | non => cases ht; cases ru; exact .of_pure rfl
  | bl b => cases ht; cases ru; exact .of_pure rfl
  | int i => cases ht; obtain ⟨t, rfl⟩ := ru; exact .of_pure rfl
  | str x => cases ht; obtain ⟨t, rfl⟩ := ru; exact .of_pure rfl
  | tup s0 r =>
    cases ht; cases ru
    obtain ⟨its, _, ⟨o, ho, hc, _⟩, _⟩ := I.tuple (st_le le s0)
    exact ob ho hc
  | lst s0 r =>
    cases ht; cases ru
    obtain ⟨its, _, ⟨o, n, ho, hc, _⟩, _⟩ := I.list (.inl (.inl (le _ _ s0)))
    exact ob ho hc
  | scr s0 =>
    cases ht; cases ru
    obtain ⟨its, _, ⟨o, n, ho, hc, _⟩, _⟩ := I.list (sl_le le s0)
    exact ob ho hc
  | ins _ _ _ => cases ht
  | cls _ => cases ht
  | dic _ _ => cases ht
  | dit _ _ => cases ht
/-- x == y, x an own object -/
def eqO (n : Nat) (body : MS) (c : Str) (x y : D) : Option D := (insC c x).bind fun x => if (tyD y).isSome || (insC c y).isSome then (ownM n body [x, y]).bind fun r => match r with
  | .bl b => some (.bl b)
  | _ => none else none
theorem e_eqO {k n : Nat} {c : Str} {N ps : List Str} {body : MS} (dm : DefM X.prog X.w X.K X.mg X.base k c "__eq__" N ps body) (ah : Ahead X.K X.mg c) (hr : Room k X.A) (hn : N.length = n) (h2 : ps.length = 2) (ha : DE X a ma) (hb : DE X b mb) : DE X (.Compare a [.Eq] [b] pos) (mBin (eqO n body c) ma mb) := by
  obtain ⟨C, f, fd, hm, cl, F, hs, hf, _, hbi⟩ := dm
  refine e_cmp (r := fun x y H Q => ∃ W sd σ dx dy z, St X.K X.mg sd σ H W ∧ DR X.K X.mg W x dx ∧ DR X.K X.mg W y dy ∧ eqO n body c dx dy = some z ∧ ∀ v H' W', St X.K X.mg sd σ H' W' → Kp sd σ H W sd σ H' W' → DR X.K X.mg W' v z → Q v H') ?_ ?_ ha hb (nobehind _ (by decide) (by decide))
  · intro pins s σ0 H x y v u Q I rx ry h
    obtain ⟨W, sd, σ, dx, dy, z, st, r1, r2, em, q⟩ := h
    simp only [eqO, Option.bind_eq_some_iff] at em
    obtain ⟨x1, hx, em⟩ := em
    obtain ⟨rfl, fs, rfl⟩ := insC_some hx
    obtain ⟨ad, dd, gs, rfl, g1, g2⟩ := ins_ref hm r1
    cases rx
    split at em
    · rename_i ok
      simp only [Option.bind_eq_some_iff] at em
      obtain ⟨r, h3, em⟩ := em
      obtain ⟨od, J⟩ := inst_at I (st.le _ _ g1)
      obtain ⟨fm, hF⟩ := I.fr
      have lk : ∃ tb, PySem.W.Looks (model X.prog X.w) s.heap (typeOf u) tb ∧ PySem.W.notFirst X.K C tb = true := by
        cases ht : tyD dy with
        | some t =>
          refine ⟨.type t, type_looks I st.le r2 ry ht, ah.h C hm t ?_⟩
          cases dy <;> cases ht <;> simp
        | none =>
          rw [ht] at ok
          have ok : (insC c dy).isSome = true := by simpa using ok
          obtain ⟨y1, hy⟩ := Option.isSome_iff_exists.mp ok
          obtain ⟨rfl, fs2, rfl⟩ := insC_some hy
          obtain ⟨ay, dy2, gs2, rfl, g3, g4⟩ := ins_ref hm r2
          cases ry
          obtain ⟨od2, J2⟩ := inst_at I (st.le _ _ g3)
          exact ⟨.ref C, J2.type, by simp [PySem.W.notFirst]⟩
      obtain ⟨tb, hl, hnf⟩ := lk
      cases r with
      | bl bb =>
        cases em
        show wpAny (model X.prog X.w) X.A (richCompare .Eq (.ref ad) u) (EP X pins σ0 Q) X.xe s
        refine PySem.W.cmp_K (op := .Eq) hr.units0 hF I.ok.mod.kin J hl hnf hs hf (wpAny_mono (run_at (us := [.ref ad, u]) F hr rfl hbi I (show Vals [.ref ad, y] [.ref ad, u] from .cons rfl (.cons ry .nil)) (t_own (Q := fun w H' => w = .bl bb ∧ ∃ W', St X.K X.mg sd σ H' W' ∧ Kp sd σ H W sd σ H' W') hn (by rw [h2]; rfl) st (.cons r1 (.cons r2 .nil)) h3 fun w H' W' st' k' r' => by
          cases r'; exact ⟨rfl, W', st', k'⟩)) ?_ fun _ _ z => z)
        rintro w s' ⟨wv, H', I', rw, rfl, W', st', k'⟩
        cases rw
        exact ⟨.bl bb, H', I', rfl, q _ H' W' st' k' (.bl bb)⟩
      | _ => cases em
    · cases em
  · exact fun x y z vx vy sd σ H W st r1 r2 hf Q q => ⟨W, sd, σ, x, y, z, st, r1, r2, hf, q⟩
/-- x.m() -/
def methO (n : Nat) (body : MS) (c m : Str) (x : D) : Option D := (insC c x).bind fun x => match x with
  | .ins _ fs => if (fs.lookup m).isNone then ownM n body [x] else none
  | _ => none
theorem DFs.no {K : PySem.W.Frag} {mg : Str → Option Value} {W : Hp} {f : Str} : ∀ {gs : List (Str × V)} {fs : List (Str × D)}, DFs K mg W gs fs → fs.lookup f = none → gs.lookup f = none
  | _, _, .nil, _ => rfl
  | _, _, @DFs.cons _ _ _ _ n v gs e fs r s, h => by
    rw [List.lookup_cons] at h ⊢
    cases q : f == n with
    | true => rw [q] at h; cases h
    | false => rw [q] at h; exact DFs.no s h
theorem e_meth0 {k n : Nat} {c nm : Str} {N ps : List Str} {body : MS} {pl : Sem Bool} (dm : DefM X.prog X.w X.K X.mg X.base k c nm N ps body) (hr : Room k X.A) (hn : N.length = n) (h1 : ps.length = 1) (ha : DE X a ma)
    (hw : eval (.Call (.Attribute a nm apos) [] [] pos) X.env = (do
                        let ov ← eval a X.env
                        standAt apos.atName
                        let __x ← holding [ov] (getMethod ov nm pl)
                        match __x with
                          | (f, first) => callWith pos f first (backTo pos (starEach [] X.env)) (backToKw pos (keywordEach [] X.env))) := by rfl) : DE X (.Call (.Attribute a nm apos) [] [] pos) (bindM ma fun x => optM (methO n body c nm x)) := by
  obtain ⟨C, f, fd, hm, cl, F, hs, hf, me, hbi⟩ := dm
  refine PE.imp (pe_meth0 (pl := pl) (E := E0) ha cl me F hr hbi .nil pass0 hw) fun σ H Q ⟨sd, W, d, sd', st, em, q⟩ => ?_
  obtain ⟨x, s1, e1, em⟩ := bindM_some em
  obtain ⟨e2, rfl⟩ := optM_some em
  refine ⟨sd, W, x, sd', st, e1, fun v H1 W1 st1 k1 r1 => ?_⟩
  simp only [methO, Option.bind_eq_some_iff] at e2
  obtain ⟨x1, hx, e2⟩ := e2
  obtain ⟨rfl, fs, rfl⟩ := insC_some hx
  dsimp only at e2
  split at e2
  · rename_i hno
    obtain ⟨ad, dd, gs, rfl, g1, g2⟩ := ins_ref hm r1
    refine ⟨ad, dd, gs, rfl, st1.le _ _ g1, g2.no (by simpa using hno), ?_⟩
    show spM X.K X.mg N ps [] body (.ref ad :: ([] ++ [])) H1 Q E0
    exact t_own hn (by rw [h1]; rfl) st1 (.cons r1 .nil) e2 fun w H2 W2 st2 k2 r2 => q w H2 W2 st2 (k1.trans k2) r2
  · cases e2
end
end Fli
set_option Elab.async false
set_option linter.all false
set_option maxRecDepth 100000
set_option maxHeartbeats 4000000
namespace Fli
open PySem PySem.Spec PyProof.Rows L2
variable [HW]

/-! an own class, as the module holds it -/
structure ClsAt (K : PySem.W.Frag) (C : Addr) (fields : List Str) : Prop where
  it : InsTy K C
  na : ∀ f ∈ fields, NoAttr K C f
  ki : ∀ t : String, t ∈ ["NoneType", "bool", "int", "str", "tuple", "list"] → PySem.W.kitOne K (.type t) (.ref C) = some false
  nf : ∀ t : String, t ∈ ["NoneType", "bool", "int", "str", "tuple", "list"] → PySem.W.notFirst K C (.type t) = true
def OwnC (K : PySem.W.Frag) (mg : Str → Option Value) (c : Str) (fields : List Str) : Prop := ∃ C, mg c = some (.ref C) ∧ ClsAt K C fields
/-- its __init__ and how its arguments come -/
def MakeX (P : Program) (w : World) (K : PySem.W.Frag) (mg : Str → Option Value) (base : Heap) (k : Nat) (c : Str) (N ps : List Str) (dd : List D) (body : MS) : Prop :=
  ∃ C f fd dvs ds, mg c = some (.ref C) ∧ Mk K C f ∧ FnOk P w K mg base CX0 k f fd ps (spM K mg N ps [0] body) ∧ Binds K fd ps ds ∧ Vals dvs ds ∧ ∀ W, DRs K mg W dvs dd
def dropM (m : M D) : MS := fun s => (m s).map fun p => .nx p.2
section
variable {X : Cx} {e a b : Expr} {es : List Expr} {x c f : Str} {p pos apos p2 : Pos} {ma mb m : M D} {ms : M (List D)} {pr : List Nat} {fields : List Str}
theorem s_drop (h : DE X e m) (hs : swapsWith e none pos.line X.env = pure false := by rfl) : SE X pr (.Expr e pos) (dropM m) := PS.imp (ps_expr h hs) fun D σ H ⟨sd, W, out, st, em, q⟩ => by
  simp only [dropM, Option.map_eq_some_iff] at em
  obtain ⟨⟨d, s1⟩, e1, rfl⟩ := em
  exact ⟨sd, W, d, s1, st, e1, fun v H1 W1 st1 k1 r => q σ H1 W1 st1 k1 Pr.refl⟩
theorem e_fldX (oc : OwnC X.K X.mg c fields) (hf : f ∈ fields) (h : DE X e m) (hb : attributeBase e f X.env (eval e X.env) = eval e X.env := by rfl) : DE X (.Attribute e f pos) (bindM m fun d => optM (fldD c f d)) := by
  obtain ⟨C, hm, cl⟩ := oc
  exact e_fld h cl.it.cl (cl.na f hf) hm hb
theorem e_isX (oc : OwnC X.K X.mg x fields) (h : DE X e m) (hg : Gl X "isinstance") (hm : X.mg "isinstance" = none) (hgx : Gl X x) (hdb : (x == ("__debug__" : Str)) = false := by decide)
    (he : starEach [e, .Name x p2] X.env = (false, eval e X.env) :: starEach [.Name x p2] X.env := by rfl) (he2 : starEach [.Name x p2] X.env = (false, eval (.Name x p2) X.env) :: starEach [] X.env := by rfl) (hpl : (backTo pos (starEach [.Name x p2] X.env)).any (·.1) = false := by rfl) :
    DE X (.Call (.Name "isinstance" p) [e, .Name x p2] [] pos) (bindM m fun d => optM (isC x d)) := by
  obtain ⟨C, hx, cl⟩ := oc
  exact e_isC h hg hm hgx hx cl.it cl.ki hdb he he2 hpl
theorem s_fldX (i : Nat) (oc : OwnC X.K X.mg c fields) (hf : f ∈ fields) (hn : PE X (.Name x p2) (tVar i)) (h : DE X e m) (hsw : swapsWith e (some (.Attribute (.Name x p2) f apos)) pos.line X.env = pure false := by rfl) :
    SE X pr (.Assign [.Attribute (.Name x p2) f apos] e pos) (setFM i c f m) := by
  obtain ⟨C, hm, cl⟩ := oc
  refine PS.imp (ps_fld hn h hsw) fun D σ H ⟨sd, W, out, st, em, q⟩ => ?_
  simp only [setFM, Option.bind_eq_some_iff] at em
  obtain ⟨⟨d, s1⟩, e1, em⟩ := em
  refine ⟨sd, W, d, s1, st, e1, fun v H1 W1 st1 k1 r => ?_⟩
  split at em
  · rename_i c' fs hs
    split at em
    · rename_i hc
      obtain ⟨rfl, hz⟩ := hc
      cases em
      have es := slotO_some hs
      obtain ⟨a, ha, w, C', dx, gs, m1, g1, r1⟩ := st1.own i _ es
      rw [hm] at m1
      cases m1
      obtain ⟨g2, g3⟩ := st1.put (ho := .ins C dx (putF f v gs)) (o' := .obj c' (putD f d fs)) es ha w ⟨w, _, _, _, hm, upd_same, r1.put r⟩
      exact ⟨_, ha, a, C, dx, gs, rfl, g1, cl.it.cl, cl.na f hf, by rw [r1.len]; exact hz, q σ _ _ g2 (k1.trans g3) Pr.refl⟩
    · cases em
  · cases em
theorem o_makeX {k n j : Nat} {N ps : List Str} {dd : List D} {body : MS} (mk : MakeX X.prog X.w X.K X.mg X.base k x N ps dd body) (hr : Room (k + 1) X.A) (hg : Gl X x) (hn : N.length = n) (hs : LA X (e :: es) ms) (hl : LenIs ms j) (hj : j + dd.length + 1 = ps.length) (hdb : (x == ("__debug__" : Str)) = false := by decide) (he : starEach (e :: es) X.env = (false, eval e X.env) :: starEach es X.env := by rfl) (hpl : (backTo pos (starEach es X.env)).any (·.1) = false := by rfl) :
    OE X (.Call (.Name x p) (e :: es) [] pos) (mkO n body x ms fun xs => xs ++ dd) := by
  obtain ⟨C, f, fd, dvs, ds, hm, Mx, F, hb, hv, hd⟩ := mk
  exact o_make Mx F hr hg hm hb hv hd hn hs hl hj hdb he hpl
theorem e_eqX {k n : Nat} {N ps : List Str} {body : MS} (oc : OwnC X.K X.mg c fields) (dm : DefM X.prog X.w X.K X.mg X.base k c "__eq__" N ps body) (hr : Room k X.A) (hn : N.length = n) (h2 : ps.length = 2) (ha : DE X a ma) (hb : DE X b mb) : DE X (.Compare a [.Eq] [b] pos) (mBin (eqO n body c) ma mb) := by
  obtain ⟨C, hm, cl⟩ := oc
  exact e_eqO dm ⟨fun C' h => by rw [hm] at h; cases h; exact cl.nf⟩ hr hn h2 ha hb
theorem e_lenX {k n : Nat} {N ps : List Str} {body : MS} (dm : DefM X.prog X.w X.K X.mg X.base k c "__len__" N ps body) (hr : Room (k + 1) X.A) (hn : N.length = n) (h1 : ps.length = 1) (h : DE X e m) (hg : Gl X "len") (hl : X.mg "len" = none) (he : starEach [e] X.env = (false, eval e X.env) :: starEach [] X.env := by rfl) (hpl : (backTo pos (starEach [] X.env)).any (·.1) = false := by rfl) :
    DE X (.Call (.Name "len" p) [e] [] pos) (bindM m fun d => optM (lenC n body c d)) := by
  obtain ⟨C, f, fd, hm, cl, F, hs, hf, _, hbi⟩ := dm
  exact e_lenC F hr hbi hn h1 hm hs hf h hg hl he hpl
end

/-! str of an own object; its truth by its length -/
section
variable {X : Cx} {k n : Nat} {c : Str} {e : Expr} {p pos : Pos} {m : M D} {N ps : List Str} {body : MS}
theorem e_strX (dm : DefM X.prog X.w X.K X.mg X.base k c "__str__" N ps body) (hr : Room (k + 2) X.A) (hn : N.length = n) (h1 : ps.length = 1) (h : DE X e m) (hg : Gl X "str") (hl : X.mg "str" = none) (he : starEach [e] X.env = (false, eval e X.env) :: starEach [] X.env := by rfl) (hpl : (backTo pos (starEach [] X.env)).any (·.1) = false := by rfl) :
    DE X (.Call (.Name "str" p) [e] [] pos) (bindM m fun d => optM (strC n body c d)) := ⟨fun pins s σ H Q I ⟨sd, W, z, sd', st, em, q⟩ => by
  obtain ⟨C, f, fd, hm, cl, F, hs, hf, _, hbi⟩ := dm
  obtain ⟨d, s1, e1, em⟩ := bindM_some em
  obtain ⟨e2, rfl⟩ := optM_some em
  refine wpAny_Call_Name_kw (ld_blt I hg hl (show bootBuiltins "str" = some (.type "str") from by decide +kernel) (PyProof.Rows.callWith_type1 (thn ((pa_cons h (pa_nil (X := X)) he).run pos pins s σ H (fun us H1 => ∃ W1 v, us = [v] ∧ St X.K X.mg sd' σ H1 W1 ∧ Kp sd σ H W sd' σ H1 W1 ∧ DR X.K X.mg W1 v d) I ⟨sd, W, d, sd', st, e1, fun v H1 W1 st1 k1 r1 => ⟨W1, v, rfl, st1, k1, r1⟩⟩) ?_) he hpl))
  rintro us s1 ⟨ws, H1, I1, rv, W1, v, rfl, st1, k1, r1⟩
  obtain ⟨u, rfl, ru⟩ := vals1 rv
  simp only [strC, Option.bind_eq_some_iff] at e2
  obtain ⟨y, hy, r2, h2, e2⟩ := e2
  obtain ⟨rfl, fs, rfl⟩ := insC_some hy
  obtain ⟨a, dx, gs, rfl, g1, g2⟩ := ins_ref hm r1
  cases ru
  obtain ⟨od, J⟩ := inst_at I1 (st1.le _ _ g1)
  cases r2 with
  | str mm =>
    cases e2
    refine PySem.W.kso_call (hr.in1.in1.units0) I1.kIn J hs hf (wpAny_mono (run_at F hr.in1.in1 rfl hbi I1 (show Vals [.ref a] [.ref a] from .cons rfl .nil) (t_own (Q := fun w H' => w = .str mm ∧ ∃ W', St X.K X.mg sd' σ H' W' ∧ Kp sd' σ H1 W1 sd' σ H' W') hn (by rw [h1]; rfl) st1 (.cons r1 .nil) h2 fun w H' W' st' k' r' => by
      cases r'; exact ⟨rfl, W', st', k'⟩)) ?_ fun _ _ z => z)
    rintro w s' ⟨wv, H', I', rw, rfl, W', st', k'⟩
    obtain ⟨t, rfl⟩ := rw
    exact ⟨.str mm, H', I', ⟨_, rfl⟩, q _ H' W' st' (k1.trans k') (.str _)⟩
  | _ => cases e2⟩
/-- truth of an own object with a length -/
theorem truthy_own_len {pins : List (Addr × Obj)} {s : Shared} {σ : L2.St} {H W : Hp} {sd : S} {v : V} {u : Value} {x : D} {z : Bool} {A : Around} {Q : Bool → Shared → Prop} {E : Value → Shared → Prop} (dm : DefM X.prog X.w X.K X.mg X.base k c "__len__" N ps body) (h0 : ∀ C, X.mg c = some (.ref C) → PySem.W.findIn X.K (.ref C) "__bool__" = some none) (hr : Room (k + 1) A) (fr : A.frames = X.A.frames) (hn : N.length = n) (h1 : ps.length = 1)
    (I : Inv X pins σ H s) (st : St X.K X.mg sd σ H W) (r : DR X.K X.mg W v x) (ru : RelV v u) (em : truC n body c x = some z)
    (q : ∀ s' H' W', Inv X pins σ H' s' → St X.K X.mg sd σ H' W' → Kp sd σ H W sd σ H' W' → Q z s') : wpAny (model X.prog X.w) A (truthy u) Q E s := by
  obtain ⟨C, f, fd, hm, cl, F, hs, hf, _, hbi⟩ := dm
  simp only [truC, lenC, Option.bind_eq_some_iff] at em
  obtain ⟨l, ⟨y, hy, r1, h2, e1⟩, e2⟩ := em
  obtain ⟨rfl, fs, rfl⟩ := insC_some hy
  obtain ⟨a, dx, gs, rfl, g1, g2⟩ := ins_ref hm r
  cases ru
  obtain ⟨od, J⟩ := inst_at I (st.le _ _ g1)
  cases r1 with
  | int mm =>
    dsimp only at e1
    split at e1
    · rename_i hz
      cases e1
      cases e2
      have inK := I.kIn
      have key : wpAny (model X.prog X.w) A (runValue (.builtin "len" ⟨[.ref a], []⟩)) (fun w s' => ∃ t, w = .int mm t ∧ ∃ H' W', Inv X pins σ H' s' ∧ St X.K X.mg sd σ H' W' ∧ Kp sd σ H W sd σ H' W') E s := by
        refine wpAny_runValue (codeAny_builtin PySem.entry_len ?_)
        rw [Around.under_plainId PySem.plain_len _]
        unfold Builtin.«len»
        have run := run_at (E := E) F hr.in1 (show A.in1.frames = X.A.frames from fr) hbi I (show Vals [.ref a] [.ref a] from .cons rfl .nil) (t_own (Q := fun w H' => w = .int mm ∧ ∃ W', St X.K X.mg sd σ H' W' ∧ Kp sd σ H W sd σ H' W') hn (by rw [h1]; rfl) st (.cons r .nil) h2 fun w H' W' st' k' r' => by
          cases r'; exact ⟨rfl, W', st', k'⟩)
        refine wpAny_bind (m := oneArg "len" _) (wpAny_pure (wpAny_bind (m := callSpecial? (.ref a) (Str.ofString "__len__")) (PySem.W.special_fn inK J hs (beq_iff_eq.mp hf) (wpAny_mono run ?_ fun _ _ y => y))))
        rintro w s' ⟨wv, H', I', rw', rfl, W', st', k'⟩
        obtain ⟨t, rfl⟩ := rw'
        refine wpAny_bind (wpAny_holding (wpAny_pure (wpAny_bind (wpAny_letGo ?_))))
        show wpAny _ _ (if mm < 0 then _ else _) _ _ _
        rw [if_neg (Int.not_lt.mpr hz.1)]
        show wpAny _ _ (if mm ≥ 2 ^ 63 then _ else _) _ _ _
        rw [if_neg (Int.not_le.mpr hz.2)]
        exact wpAny_bind (wpAny_mkInt (wpAny_pure ⟨_, rfl, H', W', I'.tok _, st', k'⟩))
      unfold truthy
      refine wpAny_bind (m := callSpecial? (.ref a) (Str.ofString "__bool__")) (wpAny_bind (wpAny_bind (J.type.here ((PySem.W.looks_findIn inK (h0 C hm)).here (wpAny_pure (wpAny_bind (wpAny_bind (J.type.here ((PySem.W.looks_findIn inK hs).here (wpAny_bind (wpAny_mono key ?_ fun _ _ y => y)))))))))))
      rintro w s' ⟨t, rfl, H', W', I', st', k'⟩
      exact wpAny_pure (q s' H' W' I' st' k')
    · cases e1
  | _ => cases e1
theorem b_truX (dm : DefM X.prog X.w X.K X.mg X.base k c "__len__" N ps body) (h0 : ∀ C, X.mg c = some (.ref C) → PySem.W.findIn X.K (.ref C) "__bool__" = some none) (hr : Room (k + 1) X.A) (hn : N.length = n) (h1 : ps.length = 1) (h : DE X e m)
    (he : ∀ whole, isTrue e X.env whole = (do let v ← whole; standAt e.pos; holding [v] (truthy v)) := by intro _; rfl) : BT X e (bindM m fun d => optM (truC n body c d)) := by
  refine ⟨fun pins s σ H Q I ⟨sd, W, z, sd', st, em, q⟩ => ?_⟩
  obtain ⟨d, s1, e1, em⟩ := bindM_some em
  obtain ⟨e2, rfl⟩ := optM_some em
  rw [he]
  refine wpAny_bind (thn (h.run pins s σ H (fun v H1 => ∃ W1, St X.K X.mg sd' σ H1 W1 ∧ Kp sd σ H W sd' σ H1 W1 ∧ DR X.K X.mg W1 v d) I ⟨sd, W, d, sd', st, e1, fun v H1 W1 st1 k1 r1 => ⟨W1, st1, k1, r1⟩⟩) ?_)
  rintro u s1 ⟨v, H1, I1, rv, W1, st1, k1, r1⟩
  exact wpAny_bind (wpAny_standAt (wpAny_holding (truthy_own_len dm h0 hr rfl hn h1 I1 st1 r1 rv e2 fun s' H' W' I' st' k' => ⟨H', I', q H' W' st' (k1.trans k')⟩)))
end
end Fli
set_option Elab.async false
set_option linter.all false
set_option maxRecDepth 100000
set_option maxHeartbeats 4000000
namespace Fli
open PySem PySem.Spec PyProof.Rows L2
variable [HW]

/-! x != y of own objects of one class, where no __ne__ is written -/
def neO (n : Nat) (body : MS) (c : Str) (x y : D) : Option D := (insC c x).bind fun x => (insC c y).bind fun y => (ownM n body [x, y]).bind fun r => match r with
  | .bl b => some (.bl !b)
  | _ => none
def NoNe (K : PySem.W.Frag) (mg : Str → Option Value) (c : Str) : Prop := ∀ C f, mg c = some (.ref C) → PySem.W.findIn K (.ref C) "__eq__" = some (some (.ref f)) → ∀ (h : Heap) (x : Addr) (o : Obj), K.In h → h.get? x = some o → o.cls = .ref C → h.OwnEqNoNe x C f "object" [.type "object"]
section
variable {X : Cx} {a b : Expr} {p pos : Pos} {ma mb m : M D} {k n : Nat} {c : Str} {N ps : List Str} {body : MS}
theorem e_neX (dm : DefM X.prog X.w X.K X.mg X.base k c "__eq__" N ps body) (nn : NoNe X.K X.mg c) (hr : Room (k + 1) X.A) (hn : N.length = n) (h2 : ps.length = 2) (ha : DE X a ma) (hb : DE X b mb) : DE X (.Compare a [.NotEq] [b] pos) (mBin (neO n body c) ma mb) := by
  obtain ⟨C, f, fd, hm, cl, F, hs, hf, _, hbi⟩ := dm
  refine e_cmp (r := fun x y H Q => ∃ W sd σ dx dy z, St X.K X.mg sd σ H W ∧ DR X.K X.mg W x dx ∧ DR X.K X.mg W y dy ∧ neO n body c dx dy = some z ∧ ∀ v H' W', St X.K X.mg sd σ H' W' → Kp sd σ H W sd σ H' W' → DR X.K X.mg W' v z → Q v H') ?_ ?_ ha hb (nobehind _ (by decide) (by decide))
  · intro pins s σ0 H x y v u Q I rx ry h
    obtain ⟨W, sd, σ, dx, dy, z, st, r1, r2, em, q⟩ := h
    simp only [neO, Option.bind_eq_some_iff] at em
    obtain ⟨x1, hx, y1, hy, r, h3, em⟩ := em
    obtain ⟨rfl, fs, rfl⟩ := insC_some hx
    obtain ⟨rfl, fs2, rfl⟩ := insC_some hy
    obtain ⟨ad, dd, gs, rfl, g1, g2⟩ := ins_ref hm r1
    obtain ⟨ay, dy, gs2, rfl, g3, g4⟩ := ins_ref hm r2
    cases rx
    cases ry
    obtain ⟨mA, J, _⟩ := ins_get I.hok (st.le _ _ g1)
    obtain ⟨mB, J2, _⟩ := ins_get I.hok (st.le _ _ g3)
    have own := nn C f hm hs s.heap ad _ I.kIn J.obj rfl
    cases r with
    | bl bb =>
      cases em
      have run := run_at (E := X.xe) (us := [.ref ad, .ref ay]) F hr.in1 (show X.A.in1.frames = X.A.frames from rfl) hbi I (show Vals [.ref ad, .ref ay] [.ref ad, .ref ay] from .cons rfl (.cons rfl .nil)) (t_own (Q := fun w H' => w = .bl bb ∧ ∃ W', St X.K X.mg sd σ H' W' ∧ Kp sd σ H W sd σ H' W') hn (by rw [h2]; rfl) st (.cons r1 (.cons r2 .nil)) h3 fun w H' W' st' k' r' => by
        cases r'; exact ⟨rfl, W', st', k'⟩)
      have J2o := J2.obj
      obtain ⟨hh, g, d, t, os⟩ := s
      refine compareOp_ne_ownEq PySem.F.cmp_object own J2o rfl (by have := hr.units0; have := hr.un; omega) (wpAny_mono run ?_ fun _ _ z => z)
      rintro w s' ⟨wv, H', I', rw, rfl, W', st', k'⟩
      cases rw
      exact ⟨bb, rfl, .bl (!bb), H', I', rfl, q _ H' W' st' k' (.bl _)⟩
    | _ => cases em
  · exact fun x y z vx vy sd σ H W st r1 r2 hf Q q => ⟨W, sd, σ, x, y, z, st, r1, r2, hf, q⟩
end

/-! bool(x) of an own object with a length -/
section
variable {prog : Program} {w : World} {A : Around} {E : Value → Shared → Prop} {s : Shared}
theorem bool_by_truth {x : Addr} {Q : Value → Shared → Prop} (h : wpAny (model prog w) A.in1.in1 (truthy (.ref x)) (fun b s' => Q (.bool b) s') E s) : wpAny (model prog w) A (call (.type "bool") [.ref x]) Q E s := by
  refine callType_codes (T := "bool") (Bi := Builtin.«object.__init__») (Q₁ := fun r s₁ => ∃ b, r = .bool b ∧ Q r s₁) PySem.F.called_bool (PySem.F.typeCall_bool_1 _) PySem.F.entry_object_init ?_ ?_
  · refine codeAny_of_tree (show wpAny _ A.in1.in1 (do checkBuiltinCall "bool.__new__" ⟨[.type "bool", .ref x], []⟩; again (.builtin "bool.__new__" ⟨[.type "bool", .ref x], []⟩)) _ _ s from ?_)
    refine wpAny_bind (wpAny_of_eq (PySem.F.newCall_bool_1 _) (wpAny_pure ⟨plainId_quiet (by decide +kernel) _, codeAny_builtin PySem.F.entry_bool_new ?_⟩))
    rw [Around.under_plainId (by decide +kernel) _]
    have f1 := PySem.F.conv_sub_bool
    obtain ⟨hp, g, d, tk, os⟩ := s
    repeat (any_goals (first | assumption | (with_reducible refine wpAny_bind (m := truthy (Value.ref x)) (wpAny_mono h (fun b s' hq => ?tru) (fun _ _ y => y))) | wp_step))
    all_goals first | exact wpAny_pure ⟨b, rfl, hq⟩ | exact ⟨b, rfl, hq⟩ | exact ⟨_, rfl, hq⟩ | skip
  · rintro obj s₁ ⟨b, rfl, hq⟩
    exact ⟨PySem.typeIs_bool _ _, PySem.F.args_object_init_2 _ _, object_init_meets PySem.F.called_bool.init.lookup PySem.F.called_bool.made (by decide) prog w A.in1 _ s₁ ⟨PySem.typeIs_bool _ _, rfl, hq⟩⟩
end
section
variable {X : Cx} {e : Expr} {p pos : Pos} {m : M D} {ms : M (List D)} {k n : Nat} {c x : Str} {N ps ks : List Str} {body : MS}
theorem e_boolX (dm : DefM X.prog X.w X.K X.mg X.base k c "__len__" N ps body) (h0 : ∀ C, X.mg c = some (.ref C) → PySem.W.findIn X.K (.ref C) "__bool__" = some none) (hr : Room (k + 3) X.A) (hn : N.length = n) (h1 : ps.length = 1) (h : DE X e m) (hg : Gl X "bool") (hl : X.mg "bool" = none)
    (he : starEach [e] X.env = (false, eval e X.env) :: starEach [] X.env := by rfl) (hpl : (backTo pos (starEach [] X.env)).any (·.1) = false := by rfl) : DE X (.Call (.Name "bool" p) [e] [] pos) (bindM m fun d => optM ((truC n body c d).map D.bl)) := ⟨fun pins s σ H Q I ⟨sd, W, z, sd', st, em, q⟩ => by
  obtain ⟨d, s1, e1, em⟩ := bindM_some em
  obtain ⟨e2, rfl⟩ := optM_some em
  simp only [Option.map_eq_some_iff] at e2
  obtain ⟨tv, e2, rfl⟩ := e2
  refine wpAny_Call_Name_kw (ld_blt I hg hl (show bootBuiltins "bool" = some (.type "bool") from by decide +kernel) (PyProof.Rows.callWith_type1 (thn ((pa_cons h (pa_nil (X := X)) he).run pos pins s σ H (fun us H1 => ∃ W1 v, us = [v] ∧ St X.K X.mg sd' σ H1 W1 ∧ Kp sd σ H W sd' σ H1 W1 ∧ DR X.K X.mg W1 v d) I ⟨sd, W, d, sd', st, e1, fun v H1 W1 st1 k1 r1 => ⟨W1, v, rfl, st1, k1, r1⟩⟩) ?_) he hpl))
  rintro us s1 ⟨ws, H1, I1, rv, W1, v, rfl, st1, k1, r1⟩
  obtain ⟨u, rfl, ru⟩ := vals1 rv
  have isr : ∃ a, u = .ref a := by
    have em' := e2
    simp only [truC, lenC, Option.bind_eq_some_iff] at em'
    obtain ⟨C, f, fd, hm, _⟩ := dm
    obtain ⟨l, ⟨y, hy, _⟩, _⟩ := em'
    obtain ⟨rfl, fs, rfl⟩ := insC_some hy
    obtain ⟨a, dx, gs, rfl, _⟩ := ins_ref hm r1
    exact ⟨a, ru⟩
  obtain ⟨a, rfl⟩ := isr
  refine bool_by_truth (truthy_own_len dm h0 (Room.in1 (Room.in1 hr)) (show X.A.in1.in1.frames = X.A.frames from rfl) hn h1 I1 st1 r1 ru e2 ?_)
  intro s' H' W' I' st' k'
  exact ⟨.bl tv, H', I', rfl, q _ H' W' st' (k1.trans k') (.bl tv)⟩⟩
/-- an own class called by keywords alone -/
def MakeKX (P : Program) (w : World) (K : PySem.W.Frag) (mg : Str → Option Value) (base : Heap) (k : Nat) (c : Str) (N ps ks : List Str) (gD : List D → List D) (body : MS) : Prop :=
  ∃ C f fd g gV, mg c = some (.ref C) ∧ Mk K C f ∧ FnOk P w K mg base CX0 k f fd ps (spM K mg N ps [0] body) ∧ KBn K fd ps 1 ks g gV ∧
    (∀ (v : V) (zs : List V) (W : Hp) (xs : List D), xs.length = ks.length → DRs K mg W zs xs → ∃ us, gV [v] zs = v :: us ∧ DRs K mg W us (gD xs))
theorem o_makeKX {kws : List Keyword} {gD : List D → List D} (mk : MakeKX X.prog X.w X.K X.mg X.base k x N ps ks gD body) (hr : Room (k + 1) X.A) (hg : Gl X x) (hn : N.length = n) (hs : LK X kws ms) (hl : LenIs ms ks.length) (hj : ∀ xs : List D, xs.length = ks.length → (gD xs).length + 1 = ps.length)
    (hall : (backToKw pos (keywordEach kws X.env)).all (·.1.isSome) = true := by rfl) (hks : (backToKw pos (keywordEach kws X.env)).filterMap (·.1) = ks := by rfl) (hdb : (x == ("__debug__" : Str)) = false := by decide)
    (hpl : ((backTo pos (starEach [] X.env)).any (·.1) || (backToKw pos (keywordEach kws X.env)).any (·.1.isNone)) = false := by rfl) :
    OE X (.Call (.Name x p) [] kws pos) (mkO n body x ms gD) := by
  obtain ⟨C, f, fd, g, gV, hm, Mx, F, hb, hgV⟩ := mk
  refine PE.imp (pe_makeK0 (E := E0) Mx F hr hg hm hb pass0 hs hall hks hdb hpl) fun σ H Q ⟨sd, W, o, sd', st, em, q⟩ => ?_
  obtain ⟨xs, s1, e1, em⟩ := bindM_some em
  obtain ⟨e2, rfl⟩ := optM_some em
  refine ⟨sd, W, xs, sd', st, e1, fun zs H1 W1 st1 k1 r1 => ⟨rfl, by rw [r1.len]; exact hl _ _ _ e1, fun y dy hy hdy ne => ?_⟩⟩
  obtain ⟨us, eg, ru⟩ := hgV (.ref y) zs W1 xs (hl _ _ _ e1) r1
  rw [eg]
  exact mk_core hn hm st1 k1 ru (by rw [ru.len]; exact hj _ (hl _ _ _ e1)) e2 q y dy hy hdy ne
end
theorem _root_.L2.Room.un66 {k : Nat} {A : Around} (hr : Room k A) : A.units + 66 < cLine := by have := hr.un; omega
def DefG (P : Program) (w : World) (K : PySem.W.Frag) (mg : Str → Option Value) (base : Heap) (k : Nat) (x : Str) (N ps : List Str) (pr : List Nat) (body : MS) : Prop :=
  ∃ f fd, FnG P w K mg base k f fd ps (spM K mg N ps pr body) ∧ mg x = some (.ref f) ∧ PySem.W.keepIn K (.ref f) = true ∧ Binds K fd ps []
theorem e_giveX {X : Cx} {k n : Nat} {N ps : List Str} {body : MS} {x : Str} {p pos : Pos} {e : Expr} {mo : M O} (d : DefG X.prog X.w X.K X.mg X.base k x N ps [0] body) (gd : X.A.guards = some []) (hr : Room k X.A) (hg : Gl X x) (hn : N.length = n) (hj : 1 = ps.length) (ha : OE X e mo) (hdb : (x == ("__debug__" : Str)) = false := by decide)
    (he : starEach [e] X.env = (false, eval e X.env) :: starEach [] X.env := by rfl) (hpl : (backTo pos (starEach [] X.env)).any (·.1) = false := by rfl) : DE X (.Call (.Name x p) [e] [] pos) (giveD n body mo) := by
  obtain ⟨f, fd, F, hm, hk, hb⟩ := d
  exact e_giveG F gd hr hg hm hk hb hn hj ha hdb he hpl
section
variable {X : Cx} {a b : Expr} {pos : Pos} {ma mb : M D} {k n : Nat} {c : Str} {N ps fields : List Str} {body : MS}
theorem b_eqO (dm : DefM X.prog X.w X.K X.mg X.base k c "__eq__" N ps body) (ah : Ahead X.K X.mg c) (hr : Room k X.A) (hn : N.length = n) (h2 : ps.length = 2) (ha : DE X a ma) (hb : DE X b mb) : BT X (.Compare a [.Eq] [b] pos) (bindM (mBin (eqO n body c) ma mb) fun d => optM (blD d)) := by
  obtain ⟨C, f, fd, hm, cl, F, hs, hf, _, hbi⟩ := dm
  refine b_cmp (r := fun x y H Q => ∃ W sd σ dx dy z, St X.K X.mg sd σ H W ∧ DR X.K X.mg W x dx ∧ DR X.K X.mg W y dy ∧ eqO n body c dx dy = some z ∧ ∀ v H' W', St X.K X.mg sd σ H' W' → Kp sd σ H W sd σ H' W' → DR X.K X.mg W' v z → Q v H') ?_ ?_ ha hb (nobehind _ (by decide) (by decide))
  · intro pins s σ0 H x y v u Q I rx ry h
    obtain ⟨W, sd, σ, dx, dy, z, st, r1, r2, em, q⟩ := h
    simp only [eqO, Option.bind_eq_some_iff] at em
    obtain ⟨x1, hx, em⟩ := em
    obtain ⟨rfl, fs, rfl⟩ := insC_some hx
    obtain ⟨ad, dd, gs, rfl, g1, g2⟩ := ins_ref hm r1
    cases rx
    split at em
    · rename_i ok
      simp only [Option.bind_eq_some_iff] at em
      obtain ⟨r, h3, em⟩ := em
      obtain ⟨od, J⟩ := inst_at I (st.le _ _ g1)
      obtain ⟨fm, hF⟩ := I.fr
      have lk : ∃ tb, PySem.W.Looks (model X.prog X.w) s.heap (typeOf u) tb ∧ PySem.W.notFirst X.K C tb = true := by
        cases ht : tyD dy with
        | some t =>
          refine ⟨.type t, type_looks I st.le r2 ry ht, ah.h C hm t ?_⟩
          cases dy <;> cases ht <;> simp
        | none =>
          rw [ht] at ok
          have ok : (insC c dy).isSome = true := by simpa using ok
          obtain ⟨y1, hy⟩ := Option.isSome_iff_exists.mp ok
          obtain ⟨rfl, fs2, rfl⟩ := insC_some hy
          obtain ⟨ay, dy2, gs2, rfl, g3, g4⟩ := ins_ref hm r2
          cases ry
          obtain ⟨od2, J2⟩ := inst_at I (st.le _ _ g3)
          exact ⟨.ref C, J2.type, by simp [PySem.W.notFirst]⟩
      obtain ⟨tb, hl, hnf⟩ := lk
      cases r with
      | bl bb =>
        cases em
        show wpAny (model X.prog X.w) X.A (richCompare .Eq (.ref ad) u) (EP X pins σ0 Q) X.xe s
        refine PySem.W.cmp_K (op := .Eq) hr.units0 hF I.ok.mod.kin J hl hnf hs hf (wpAny_mono (run_at (us := [.ref ad, u]) F hr rfl hbi I (show Vals [.ref ad, y] [.ref ad, u] from .cons rfl (.cons ry .nil)) (t_own (Q := fun w H' => w = .bl bb ∧ ∃ W', St X.K X.mg sd σ H' W' ∧ Kp sd σ H W sd σ H' W') hn (by rw [h2]; rfl) st (.cons r1 (.cons r2 .nil)) h3 fun w H' W' st' k' r' => by
          cases r'; exact ⟨rfl, W', st', k'⟩)) ?_ fun _ _ z => z)
        rintro w s' ⟨wv, H', I', rw, rfl, W', st', k'⟩
        cases rw
        exact ⟨.bl bb, H', I', rfl, q _ H' W' st' k' (.bl bb)⟩
      | _ => cases em
    · cases em
  · exact fun x y z vx vy sd σ H W st r1 r2 hf Q q => ⟨W, sd, σ, x, y, z, st, r1, r2, hf, q⟩
theorem b_eqX (oc : OwnC X.K X.mg c fields) (dm : DefM X.prog X.w X.K X.mg X.base k c "__eq__" N ps body) (hr : Room k X.A) (hn : N.length = n) (h2 : ps.length = 2) (ha : DE X a ma) (hb : DE X b mb) : BT X (.Compare a [.Eq] [b] pos) (bindM (mBin (eqO n body c) ma mb) fun d => optM (blD d)) := by
  obtain ⟨C, hm, cl⟩ := oc
  exact b_eqO dm ⟨fun C' h => by rw [hm] at h; cases h; exact cl.nf⟩ hr hn h2 ha hb
theorem b_neX (dm : DefM X.prog X.w X.K X.mg X.base k c "__eq__" N ps body) (nn : NoNe X.K X.mg c) (hr : Room (k + 1) X.A) (hn : N.length = n) (h2 : ps.length = 2) (ha : DE X a ma) (hb : DE X b mb) : BT X (.Compare a [.NotEq] [b] pos) (bindM (mBin (neO n body c) ma mb) fun d => optM (blD d)) := by
  obtain ⟨C, f, fd, hm, cl, F, hs, hf, _, hbi⟩ := dm
  refine b_cmp (r := fun x y H Q => ∃ W sd σ dx dy z, St X.K X.mg sd σ H W ∧ DR X.K X.mg W x dx ∧ DR X.K X.mg W y dy ∧ neO n body c dx dy = some z ∧ ∀ v H' W', St X.K X.mg sd σ H' W' → Kp sd σ H W sd σ H' W' → DR X.K X.mg W' v z → Q v H') ?_ ?_ ha hb (nobehind _ (by decide) (by decide))
  · intro pins s σ0 H x y v u Q I rx ry h
    obtain ⟨W, sd, σ, dx, dy, z, st, r1, r2, em, q⟩ := h
    simp only [neO, Option.bind_eq_some_iff] at em
    obtain ⟨x1, hx, y1, hy, r, h3, em⟩ := em
    obtain ⟨rfl, fs, rfl⟩ := insC_some hx
    obtain ⟨rfl, fs2, rfl⟩ := insC_some hy
    obtain ⟨ad, dd, gs, rfl, g1, g2⟩ := ins_ref hm r1
    obtain ⟨ay, dy, gs2, rfl, g3, g4⟩ := ins_ref hm r2
    cases rx
    cases ry
    obtain ⟨mA, J, _⟩ := ins_get I.hok (st.le _ _ g1)
    obtain ⟨mB, J2, _⟩ := ins_get I.hok (st.le _ _ g3)
    have own := nn C f hm hs s.heap ad _ I.kIn J.obj rfl
    cases r with
    | bl bb =>
      cases em
      have run := run_at (E := X.xe) (us := [.ref ad, .ref ay]) F hr.in1 (show X.A.in1.frames = X.A.frames from rfl) hbi I (show Vals [.ref ad, .ref ay] [.ref ad, .ref ay] from .cons rfl (.cons rfl .nil)) (t_own (Q := fun w H' => w = .bl bb ∧ ∃ W', St X.K X.mg sd σ H' W' ∧ Kp sd σ H W sd σ H' W') hn (by rw [h2]; rfl) st (.cons r1 (.cons r2 .nil)) h3 fun w H' W' st' k' r' => by
        cases r'; exact ⟨rfl, W', st', k'⟩)
      have J2o := J2.obj
      obtain ⟨hh, g, d, t, os⟩ := s
      refine compareOp_ne_ownEq PySem.F.cmp_object own J2o rfl (by have := hr.units0; have := hr.un; omega) (wpAny_mono run ?_ fun _ _ z => z)
      rintro w s' ⟨wv, H', I', rw, rfl, W', st', k'⟩
      cases rw
      exact ⟨bb, rfl, .bl (!bb), H', I', rfl, q _ H' W' st' k' (.bl _)⟩
    | _ => cases em
  · exact fun x y z vx vy sd σ H W st r1 r2 hf Q q => ⟨W, sd, σ, x, y, z, st, r1, r2, hf, q⟩
end
end Fli
set_option Elab.async false
set_option linter.all false
set_option maxRecDepth 100000
set_option maxHeartbeats 4000000
namespace Fli
open PySem PySem.Spec PyProof.Rows L2
variable [HW]

/-! what the top has left, as facts -/
section
variable {P : Program} {w : World} {K : PySem.W.Frag} {mg : Str → Option Value} {base : Heap} {h : Heap}
theorem def_okD {x qual : Str} {st : Stmt} {f : Addr} {fd : FuncData} {N ps : List Str} {k : Nat} {pr : List Nat} {body : MS} {dvs : List V} (F : FunD K x qual (defArgs st) (defBody st) (defScope st) dvs [] f fd) (Sc : FnScope N ps (defScope st))
    (hb : ∀ (cdv : Value) (A : Around) (outer : List Env) (s : Shared) (H : Hp) (E : XK), Room k (A.deeper (PyProof.Rows.envOfC qual (defScope st) s.heap.objs.size f cdv)) → SEs (cxOf CX0 P w K mg base N qual (defScope st) f cdv A outer s H E).nox pr (defBody st) body) :
    FnOk P w K mg base CX0 (k + 1) f fd ps (spM K mg N ps pr body) :=
  F.ok Sc (fun vs H Q E h => h.1) fun cdv A outer s H vs Q E hr h => ⟨_, (hb cdv A outer s H E hr).nox, h.2⟩
theorem funX_mk {x : Str} {st : Stmt} {f : Addr} {oc : Value} {od an : Option Addr} {osl : Array (Option Value)} {kV doc pm cdv ct : Value} (X : K.In h) (G : h.Ns mainGlobals mg) (a : PySem.W.nsIn K mainGlobals x = some (some (.ref f)))
    (l : K.lookup f = some ⟨oc, od, .func (PySem.W.fnOf x x (defArgs st) (defBody st) (defScope st) .none kV doc pm an cdv ct), osl⟩) (c : PySem.W.codeIn K cdv x = true) (k : PySem.W.keepIn K (.ref f) = true) : FunX K mg x st :=
  ⟨f, _, fun_mk l c k, PySem.W.mg_of X G a⟩
def BindsLike (x q : Str) (st : Stmt) (ps : List Str) : Prop := ∀ (kV doc pm : Value) (an : Option Addr) (cdv ct : Value) (us : List Value), us.length = ps.length → bindArgs (PySem.W.fnOf x q (defArgs st) (defBody st) (defScope st) .none kV doc pm an cdv ct) ⟨us, []⟩ = pure (ps.zip us)
theorem FunX.defX {x : Str} {st : Stmt} {k : Nat} {N ps : List Str} {pr : List Nat} {body : MS} (F : FunX K mg x st) (ok : ∀ {f fd}, Fun K x x st f fd → FnOk P w K mg base CX0 k f fd ps (spM K mg N ps pr body)) (b : BindsLike x x st ps) : DefX P w K mg base k x N ps pr body := by
  obtain ⟨f, fd, F, hm⟩ := F
  exact ⟨f, fd, ok F, hm, F.kp, F.binds b⟩
theorem FunX.defG {x : Str} {st : Stmt} {k : Nat} {N ps : List Str} {pr : List Nat} {body : MS} (F : FunX K mg x st) (ok : ∀ {f fd}, Fun K x x st f fd → FnG P w K mg base k f fd ps (spM K mg N ps pr body)) (b : BindsLike x x st ps) : DefG P w K mg base k x N ps pr body := by
  obtain ⟨f, fd, F, hm⟩ := F
  exact ⟨f, fd, ok F, hm, F.kp, F.binds b⟩
/-- a method of an own class -/
def MethF (K : PySem.W.Frag) (C : Addr) (m q : Str) (st : Stmt) : Prop := ∃ f fd, Fun K m q st f fd ∧ Meth K C m f
theorem methF_mk {m q : Str} {st : Stmt} {C f : Addr} {oc : Value} {od an : Option Addr} {osl : Array (Option Value)} {kV doc pm cdv ct : Value} (a : PySem.W.findIn K (.ref C) m = some (some (.ref f))) (i : PySem.W.isFn K (.ref f) = true)
    (l : K.lookup f = some ⟨oc, od, .func (PySem.W.fnOf m q (defArgs st) (defBody st) (defScope st) .none kV doc pm an cdv ct), osl⟩) (cd : PySem.W.codeIn K cdv q = true) (k : PySem.W.keepIn K (.ref f) = true) : MethF K C m q st :=
  ⟨f, _, fun_mk l cd k, ⟨a, i, k⟩⟩
theorem MethF.defM {c m q : Str} {C : Addr} {st : Stmt} {k : Nat} {N ps : List Str} {body : MS} (F : MethF K C m q st) (hm : mg c = some (.ref C)) (cl : Cls K C) (ok : ∀ {f fd}, Fun K m q st f fd → FnOk P w K mg base CX0 k f fd ps (spM K mg N ps [] body)) (b : BindsLike m q st ps) : DefM P w K mg base k c m N ps body := by
  obtain ⟨f, fd, F, M⟩ := F
  exact ⟨C, f, fd, hm, cl, ok F, M.at_, M.fn, M, F.binds b⟩
/-- __init__ with defaults -/
def InitF (K : PySem.W.Frag) (mg : Str → Option Value) (C : Addr) (q : Str) (st : Stmt) (dd : List D) : Prop := ∃ f fd dvs, Mk K C f ∧ FunD K "__init__" q (defArgs st) (defBody st) (defScope st) dvs [] f fd ∧ ∀ W, DRs K mg W dvs dd
theorem initF_mk {q : Str} {st : Stmt} {C f T T0 : Addr} {oc : Value} {od an : Option Addr} {osl sl sl0 : Array (Option Value)} {kV doc pm cdv ct oc2 : Value} {od2 : Option Addr} {n : Nat} (mk : PySem.W.makesIn K C = true) (kc : PySem.W.keepIn K (.ref C) = true) (a : PySem.W.findIn K (.ref C) "__init__" = some (some (.ref f))) (i : PySem.W.isFn K (.ref f) = true)
    (l : K.lookup f = some ⟨oc, od, .func (PySem.W.fnOf "__init__" q (defArgs st) (defBody st) (defScope st) (.ref T) kV doc pm an cdv ct), osl⟩) (cd : PySem.W.codeIn K cdv q = true) (k : PySem.W.keepIn K (.ref f) = true)
    (lt : K.lookup T = some ⟨oc2, od2, .seq #[.ref T0] n, sl⟩) (l0 : K.lookup T0 = some ⟨.type "tuple", none, .seq #[] 0, sl0⟩) : InitF K mg C q st [.tup []] :=
  ⟨f, _, [.ref T0], ⟨mk, a, i, kc⟩, ⟨⟨oc, od, _, kV, doc, pm, an, cdv, ct, osl, rfl, l, cd, .inr ⟨by simp, T, _, [.ref T0], n, rfl, lt, rfl, .cons rfl .nil⟩, .inl rfl⟩, k⟩,
    fun W => .cons (.tup (vs := []) (.inr ⟨_, #[], 0, l0, rfl, rfl, rfl, by decide, .nil⟩) .nil) .nil⟩
end
section
variable {P : Program} {w : World} {K : PySem.W.Frag} {mg : Str → Option Value} {base : Heap} {h : Heap} {c q : Str} {st : Stmt} {k : Nat} {N ps ks : List Str} {body : MS} {dd : List D}
def BindsDfl (q : Str) (st : Stmt) (ps : List Str) (n d : Nat) : Prop := ∀ (T : Addr) (kV doc pm : Value) (an : Option Addr) (cdv ct : Value) (us its : List Value), us.length = n → its.length = d →
  ∃ k, bindArgs (PySem.W.fnOf "__init__" q (defArgs st) (defBody st) (defScope st) (.ref T) kV doc pm an cdv ct) ⟨us, []⟩ = seqItems? (.ref T) >>= k ∧ k (some its.toArray) = pure (ps.zip (us ++ its.drop (n + d - ps.length)))
theorem vals_drs {W : Hp} : ∀ {vs : List V} {dd : List D} (n : Nat), DRs K mg W vs dd → DRs K mg W (vs.drop n) (dd.drop n)
  | _, _, 0, r => r
  | _, _, n + 1, .nil => .nil
  | _, _, n + 1, .cons _ r => vals_drs n r
/-- n positional arguments, the last ones of the defaults fill up -/
theorem InitF.makeX {C : Addr} (F : InitF K mg C q st dd) (hm : mg c = some (.ref C)) (n : Nat) (hd : dd ≠ []) (hn : n + (dd.length - (n + dd.length - ps.length)) = ps.length) (ok : ∀ {f fd dvs}, FunD K "__init__" q (defArgs st) (defBody st) (defScope st) dvs [] f fd → FnOk P w K mg base CX0 k f fd ps (spM K mg N ps [0] body))
    (b : BindsDfl q st ps n dd.length) : MakeX P w K mg base k c N ps (dd.drop (n + dd.length - ps.length)) body := by
  obtain ⟨f, fd, dvs, M, F, r⟩ := F
  have l : dvs.length = dd.length := (r fun _ => none).len
  obtain ⟨ds, r1, b1⟩ := FunD.binds1 (ps := ps) F n (n + dd.length - ps.length) (by rintro rfl; cases dd with | nil => exact hd rfl | cons _ _ => cases l) (by rw [l]; exact hn) fun T kV doc pm an cdv ct us its h1 h2 => b T kV doc pm an cdv ct us its h1 (h2.trans l)
  exact ⟨C, f, fd, _, ds, hm, M, ok F, b1, r1, fun W => vals_drs _ (r W)⟩
/-- all arguments by keywords -/
theorem InitF.makeKX {C : Addr} {gD : List D → List D} (F : InitF K mg C q st dd) (hm : mg c = some (.ref C)) (hd : dd ≠ []) (g : {α : Type} → List α → List α → List α) (hrel : ∀ {vs zs : List V} {us ws : List Value}, Vals vs us → Vals zs ws → Vals (g vs zs) (g us ws))
    (ok : ∀ {f fd dvs}, FunD K "__init__" q (defArgs st) (defBody st) (defScope st) dvs [] f fd → FnOk P w K mg base CX0 k f fd ps (spM K mg N ps [0] body))
    (b : ∀ (T : Addr) (kV doc pm : Value) (an : Option Addr) (cdv ct : Value) (us its ws : List Value), us.length = 1 → its.length = dd.length → ws.length = ks.length → ∃ k, bindArgs (PySem.W.fnOf "__init__" q (defArgs st) (defBody st) (defScope st) (.ref T) kV doc pm an cdv ct) ⟨us, ks.zip ws⟩ = seqItems? (.ref T) >>= k ∧ k (some its.toArray) = pure (ps.zip (g us ws)))
    (hg : ∀ (v : V) (zs : List V) (W : Hp) (xs : List D), xs.length = ks.length → DRs K mg W zs xs → ∃ us, g [v] zs = v :: us ∧ DRs K mg W us (gD xs)) : MakeKX P w K mg base k c N ps ks gD body := by
  obtain ⟨f, fd, dvs, M, F, r⟩ := F
  have l : dvs.length = dd.length := (r fun _ => none).len
  obtain ⟨its, kb⟩ := FunD.kbindsD (ps := ps) F 1 ks (fun us _ ws => g us ws) (by rintro rfl; cases dd with | nil => exact hd rfl | cons _ _ => cases l) (fun a _ b => hrel a b) fun T kV doc pm an cdv ct us its ws h1 h2 h3 => b T kV doc pm an cdv ct us its ws h1 (h2.trans l) h3
  exact ⟨C, f, fd, _, _, hm, M, ok F, kb, hg⟩
end
section
variable {P : Program} {w : World} {K : PySem.W.Frag} {mg : Str → Option Value} {base : Heap} {h : Heap} {c : Str}
theorem ns_some {m : Str → Option Value} {N : Addr} {n : Str} {v : Value} (X : K.In h) (G : h.Ns N m) (e : PySem.W.nsIn K N n = some (some v)) : m n = some v := by
  obtain ⟨ob, ents, nn, at_, dat, _, fin⟩ := G
  unfold PySem.W.nsIn at e
  split at e
  · rename_i c d es2 n2 sl q
    have same := X _ _ q
    rw [at_] at same
    cases same
    cases dat
    split at e
    · rename_i en found
      cases e
      rw [← fin]
      unfold nsFind findBy
      rw [← Array.find?_toList, found]
      rfl
    · split at e <;> nomatch e
  · nomatch e
theorem lk_obj_eq : ∃ y, typeLookup (.type "object") "__eq__" = pure y := ⟨some (.builtin "object.__eq__"), by rw [typeLookup_type, builtinLookup_eq_fast]; kernel_rfl⟩
theorem noNe_mk {C f N : Addr} {ocN : Value} {odN : Option Addr} {es : Array DictEntry} {nN : Nat} {slN : Array (Option Value)} {nm q : Str} {bs sub : List Value} {hdct ab : Bool} {sn : List Str} {col : Option Bool} {dd od : Option Addr} {k0 k1 k2 k3 k5 : Option Value} {nid : String} {fd : FuncData} {sl : Array (Option Value)} (hm : mg c = some (.ref C))
    (l : K.lookup C = some (excClassObj nm q C N bs [.type "object"] hdct sn sub ab col dd k0 k1 k2 k3 k5 nid)) (lN : K.lookup N = some ⟨ocN, odN, .dict es nN, slN⟩) (hk : (es.all fun e => match e.key with | .str _ _ => true | _ => false) = true) (e : PySem.W.nsIn K N "__eq__" = some (some (.ref f))) (ne : PySem.W.nsIn K N "__ne__" = some none)
    (lf : K.lookup f = some ⟨.type "function", od, .func fd, sl⟩) (fe : PySem.W.findIn K (.ref C) "__eq__" = some (some (.ref f))) : NoNe K mg c := by
  have ok : PySem.W.nsOkIn K N = true := by unfold PySem.W.nsOkIn; rw [lN]; exact hk
  intro C' f' h1 h2 h x o X hx hc
  rw [hm] at h1
  cases h1
  rw [fe] at h2
  cases h2
  obtain ⟨y, hy⟩ := lk_obj_eq
  have G : h.Ns N (h.nsMap N) := .of_isNs (PySem.W.isNs_of_in X ok)
  exact ⟨o, _, nm, q, N, bs, hdct, sn, sub, ab, col, dd, k0, k1, k2, k3, k5, nid, h.nsMap N, y, hx, hc, X _ _ l, G, ns_some X G e, X _ _ lf, rfl, PySem.F.mro_object, hy, PySem.W.ns_none_of X G ne⟩
theorem kit_own {C : Addr} {T : String} {cd : ClassData} (h1 : PySem.W.clsIn K C = some cd) (h2 : PySem.W.typeIn K (.ref C) = some (.type "type")) (h3 : PySem.W.subIn K (.type T) (.ref C) = some false) : PySem.W.kitOne K (.type T) (.ref C) = some false := by
  unfold PySem.W.kitOne PySem.W.kitCls
  rw [if_neg (by simp)]
  simp only [h1, h2, h3]
  simp
theorem ownC_mk {C : Addr} {fields : List Str} (hm : mg c = some (.ref C)) (cl : Cls K C) (a : PySem.W.findIn K (.ref C) "__class__" = some (some (.builtin "object.__class__"))) (b : PySem.W.specialIn K (.builtin "object.__class__") "__get__" = some (some (.builtin "getset_descriptor.__get__"))) (cc : PySem.W.takesIn K (.builtin "object.__class__") = some true)
    (d : PySem.W.mroIn K C (.type "object") = some true) (na : ∀ f ∈ fields, PySem.W.findIn K (.ref C) f = some none) {cd : ClassData} (q1 : PySem.W.clsIn K C = some cd) (q2 : PySem.W.typeIn K (.ref C) = some (.type "type"))
    (k1 : PySem.W.subIn K (.type "NoneType") (.ref C) = some false) (k2 : PySem.W.subIn K (.type "bool") (.ref C) = some false) (k3 : PySem.W.subIn K (.type "int") (.ref C) = some false) (k4 : PySem.W.subIn K (.type "str") (.ref C) = some false) (k5 : PySem.W.subIn K (.type "tuple") (.ref C) = some false) (k6 : PySem.W.subIn K (.type "list") (.ref C) = some false)
    (n1 : PySem.W.notFirst K C (.type "NoneType") = true) (n2 : PySem.W.notFirst K C (.type "bool") = true) (n3 : PySem.W.notFirst K C (.type "int") = true) (n4 : PySem.W.notFirst K C (.type "str") = true) (n5 : PySem.W.notFirst K C (.type "tuple") = true) (n6 : PySem.W.notFirst K C (.type "list") = true) : OwnC K mg c fields := by
  refine ⟨C, hm, ⟨⟨cl, a, b, cc, d⟩, na, fun t ht => ?_, fun t ht => ?_⟩⟩
  all_goals
    simp only [List.mem_cons, List.not_mem_nil, or_false] at ht
    rcases ht with rfl | rfl | rfl | rfl | rfl | rfl
    all_goals first | assumption | exact kit_own q1 q2 (by assumption)
theorem txt_mk {h : Heap} (X : K.In h) (G : h.Ns mainGlobals mg) (z1 : PySem.W.nsIn K mainGlobals "len" = some none) (z2 : PySem.W.nsIn K mainGlobals "int" = some none) (z3 : PySem.W.nsIn K mainGlobals "abs" = some none) (z4 : PySem.W.nsIn K mainGlobals "range" = some none) (z5 : PySem.W.nsIn K mainGlobals "min" = some none) (z6 : PySem.W.nsIn K mainGlobals "max" = some none) (z7 : PySem.W.nsIn K mainGlobals "tuple" = some none)
    (z8 : PySem.W.nsIn K mainGlobals "list" = some none) (z9 : PySem.W.nsIn K mainGlobals "all" = some none) (z10 : PySem.W.nsIn K mainGlobals "repr" = some none) (z11 : PySem.W.nsIn K mainGlobals "isinstance" = some none) (z12 : PySem.W.nsIn K mainGlobals "enumerate" = some none) (z13 : PySem.W.nsIn K mainGlobals "str" = some none) (z14 : PySem.W.nsIn K mainGlobals "bool" = some none) : Txt K mg :=
  have n {x : Str} (e : PySem.W.nsIn K mainGlobals x = some none) : mg x = none := PySem.W.mg_none_of X G e
  ⟨n z1, n z2, n z3, n z4, n z5, n z6, n z7, n z8, n z9, n z10, n z11, n z12, n z13, n z14⟩
end
end Fli
set_option Elab.async false
set_option linter.all false
set_option maxRecDepth 100000
set_option maxHeartbeats 4000000
namespace Fli
open PySem PySem.Spec PyProof.Rows L2
variable [HW]

/-! texts cut into lists, beginnings of texts -/
def splitD : D → D → Option O
  | .str a, .str b => if (b.length == 0) = false ∧ a.length + 2 ≤ sizeLine then some (.lst ((Txt.split a b).map D.str)) else none
  | _, _ => none
def swD : D → D → Option D
  | .str a, .str b => some (.bl (Txt.startswith a b))
  | _, _ => none
section
variable {X : Cx} {o e : Expr} {es : List Expr} {apos pos p p2 : Pos} {ma mb m : M D} {ms : M (List D)} {x : Str} {pr : List Nat}
theorem o_split (ho : DE X o ma) (he : DE X e mb) (h1 : starEach [e] X.env = [(false, eval e X.env)] := by rfl) (h2 : attributeBase o "split" X.env (eval o X.env) = eval o X.env := by rfl) (h3 : (apos.endLine == pos.line) = true := by rfl) :
    OE X (.Call (.Attribute o "split" apos) [e] [] pos) (mBinO splitD ma mb) := PE.imp (pe_split ho he h1 h2 h3) fun σ H Q ⟨sd, W, d, sd', st, em, q⟩ => by
  obtain ⟨a, s1, e1, em⟩ := bindM_some em
  obtain ⟨b, s2, e2, em⟩ := bindM_some em
  obtain ⟨e3, rfl⟩ := optM_some em
  refine ⟨sd, W, a, s1, st, e1, fun v H1 W1 st1 k1 r1 => ?_⟩
  unfold splitD at e3
  split at e3
  · cases r1
    refine ⟨⟨_, rfl⟩, s1, W1, _, sd', st1, e2, fun u H2 W2 st2 k2 r2 => ?_⟩
    cases r2
    split at e3
    · rename_i hz
      cases e3
      refine ⟨_, _, rfl, rfl, hz.1, hz.2, fun l hl => ?_⟩
      obtain ⟨g1, g2⟩ := st2.newO hl (.lst ((Txt.split _ _).map V.str))
      have k := k1.trans k2
      exact q l _ W2 g1 (k.trans g2) ⟨st2.free hl, _, upd_same, str_drs⟩ (st2.notOwn hl) (k.fresh hl)
    · cases e3
  · cases e3
theorem e_sw (ho : DE X o ma) (he : DE X e mb) (h1 : starEach [e] X.env = [(false, eval e X.env)] := by rfl) (h2 : attributeBase o "startswith" X.env (eval o X.env) = eval o X.env := by rfl) (h3 : (apos.endLine == pos.line) = true := by rfl) :
    DE X (.Call (.Attribute o "startswith" apos) [e] [] pos) (mBin swD ma mb) := PE.imp (pe_m1 PySem.F.slot_str_startswith PySem.F.type_str_startswith mt_startswith ho he h1 h2 h3) fun σ H Q ⟨sd, W, d, sd', st, em, q⟩ => by
  obtain ⟨a, s1, e1, em⟩ := bindM_some em
  obtain ⟨b, s2, e2, em⟩ := bindM_some em
  obtain ⟨e3, rfl⟩ := optM_some em
  refine ⟨sd, W, a, s1, st, e1, fun v H1 W1 st1 k1 r1 => ?_⟩
  unfold swD at e3
  split at e3
  · cases r1
    refine ⟨⟨_, rfl⟩, s1, W1, _, sd', st1, e2, fun u H2 W2 st2 k2 r2 => ?_⟩
    cases r2
    cases e3
    exact ⟨_, _, rfl, rfl, q _ H2 W2 st2 (k1.trans k2) (.bl _)⟩
  · cases e3
/-! stars: in a display, in a target -/
def seqLs : D → Option (List D)
  | .tup ds => some ds
  | .lst ds => some ds
  | _ => none
theorem la_star (h : DE X e m) (hs : LA X es ms) : LA X (.Starred e p :: es) (bindM m fun d => bindM (optM (seqLs d)) fun xs => bindM ms fun ds => retM (xs ++ ds)) := PA.imp (StX.pa_star h hs) fun σ H Q ⟨sd, W, d, sd', st, em, q⟩ => by
  obtain ⟨a, s1, e1, em⟩ := bindM_some em
  obtain ⟨xs, e2, em⟩ := bindO_some em
  obtain ⟨ds, s2, e3, em⟩ := bindM_some em
  cases em
  refine ⟨sd, W, a, s1, st, e1, fun v H1 W1 st1 k1 r1 => ?_⟩
  have go : ∀ (b : Addr) (vs : List V), v = .ref b → (SqT X.K H1 b vs ∨ SqL X.K H1 b vs) → DRs X.K X.mg W1 vs xs → ∃ c ys, v = V.ref c ∧ (SqT X.K H1 c ys ∨ SqL X.K H1 c ys) ∧ tL X.K X.mg ms σ H1 fun zs H2 => Q (ys ++ zs) H2 := fun b vs hv hq r =>
    ⟨b, vs, hv, hq, s1, W1, ds, sd', st1, e3, fun u H2 W2 st2 k2 r2 => q _ H2 W2 st2 (k1.trans k2) ((r.le k2.le).app r2)⟩
  cases a with
  | tup as => cases e2; cases r1 with | tup s r => exact go _ _ rfl (.inl (st_le st1.le s)) r
  | lst as => cases e2; cases r1 with | lst s r => exact go _ _ rfl (.inr (.inl (.inl (st1.le _ _ s)))) r
  | _ => cases e2
end
/-- (x, *ys) = a list -/
def gStar (K : PySem.W.Frag) (t : TGs) : TG := fun v σ H Q => ∃ a x xs, v = .ref a ∧ SqL K H a (x :: xs) ∧ ∀ p, H p = none → t [x, .ref p] σ (upd H p (.lst xs)) Q
theorem pg_star {X : Cx} {t1 t2 : Expr} {t : TGs} {k : Nat} {sp pos : Pos} (hc : X.calm = true) (h : PGs X [t1, t2] t) (hn : assignEach [t1, .Starred t2 sp] X.env = [(false, assign t1 X.env), (true, assign t2 X.env)] := by rfl)
    (hm : (assignEach [t1, t2] X.env).map (·.2) = [assign t1 X.env, assign t2 X.env] := by rfl) : PG X (.Tuple [t1, .Starred t2 sp] k pos) (gStar X.K t) := by
  constructor
  intro pins s σ H v u Q I r hw
  obtain ⟨a, x, xs, rfl, hq, hw⟩ := hw
  cases r
  obtain ⟨its, rv, pl, hz⟩ := I.list hq
  rw [PyProof.Rows.assign_Tuple]
  refine wpAny_bind (wpAny_standAt ?_)
  unfold unpack
  rw [hn]
  cases rv with
  | @cons _ u0 _ us rx rr =>
  have ne : a ≠ s.heap.objs.size := by
    obtain ⟨o, n, ho, _⟩ := pl
    exact Nat.ne_of_lt (Heap.lt_size ho)
  have hl := pl.isList
  have sz : (u0 :: us).toArray.size = us.length + 1 := by simp
  show wpAny _ _ (holding [Value.ref a] (unpackItems (.ref a) 2 (some 1)) >>= fun ys => assignInOrder [assign t1 X.env, assign t2 X.env] ys) _ _ _
  refine wpAny_bind (wpAny_holding ?_)
  unfold unpackItems notIterableAtAll
  refine wpAny_bind (wpAny_bind (wpAny_specialOf hl.typeIs PySem.F.slot_list_iter.lookup (wpAny_pure ?_)))
  simp only [Bool.false_eq_true, if_false]
  refine wpAny_bind (wpAny_holding (wpAny_pyIter_list hl ?_))
  refine wpAny_bind (wpAny_holding (PySem.W.kun_draw ne 1 0 _ _ ⟨_, Heap.get?_push_size _ rfl, rfl, rfl⟩ (hl.push _) (by omega) fun h1 it1 sb1 => ?_))
  have hl1 : h1.IsList a (u0 :: us).toArray := (hl.push _).extBut sb1.extBut ne
  obtain ⟨oi, hoi, q1, q2⟩ := it1
  obtain ⟨ol, hol, q3⟩ := id hl1
  have e1 : ((u0 :: us).toArray.toList.drop 0).take 1 = [u0] := by simp
  rw [e1]
  simp only [List.length_singleton, Nat.lt_irrefl, if_false]
  refine wpAny_bind (wpAny_holding (PySem.W.kun_collect (s := { s with heap := h1 }) (T := "list_iterator") (.inr (.inr (.inl rfl))) (PySem.Walks.list (A := X.A.in1) (I.ok.hd hc) s.heap.objs.size a ne (u0 :: us).toArray) (fun j w z => z.1.typeIs) (k := 1) (by omega) ⟨⟨oi, hoi, q1, q2⟩, hl1⟩ (Heap.lt_size hoi) (Heap.lt_size hol) (fun h2 tk kp => ?_) (by rw [sz]; rw [List.length_cons, rr.length] at hz; exact hz)))
  have e2 : (u0 :: us).toArray.toList.drop 1 = us := by simp
  rw [e2]
  have I2 : Inv X pins σ H { s with heap := h2, toks := tk } := I.kept (t' := tk) fun b o z =>
    have nb : b ≠ s.heap.objs.size := Nat.ne_of_lt (Heap.lt_size z)
    kp b o nb (sb1.extBut b o nb (Heap.get?_push_of_some _ z))
  simp only [Nat.sub_self, Nat.not_lt_zero, if_false, Nat.sub_zero, List.take_length, List.drop_length]
  have lz : us.length ≤ sizeLine := Nat.le_trans (Nat.le_succ _) (by rw [List.length_cons, rr.length] at hz; exact hz)
  refine wpAny_bind (wpAny_newList (s := { s with heap := h2, toks := tk }) (wpAny_pure ?_) lz)
  have new : ObjOk X.prog X.w (upd H h2.objs.size (.lst xs)) (h2.push { cls := .type "list", data := .seq us.toArray }) h2.objs.size (.lst xs) := ⟨by rw [rr.length]; exact lz, us, 0, rr, Heap.get?_push_size _ rfl⟩
  have I3 := I2.laid (t' := tk) (fun b o z => Heap.get?_push_of_some _ z) (Nat.le_refl _) new
  have hp : H h2.objs.size = none := I2.hok.fresh (Nat.le_refl _)
  have z := h.run pins _ σ (upd H h2.objs.size (.lst xs)) [x, .ref h2.objs.size] [u0, .ref h2.objs.size] Q I3 (.cons rx (.cons rfl .nil)) (hw _ hp)
  rw [hm] at z
  exact z
/-- what it does with data -/
def starF (g : List D → S → Option S) : D → S → Option S := fun d s => match d with
  | .lst (x :: xs) => g [x, .lst xs] s
  | _ => none
theorem tg_star {K : PySem.W.Frag} {mg : Str → Option Value} {pr : List Nat} {gs : TGs} {fs : List D → S → Option S} (hs : TGs' K mg pr gs fs) : TGk K mg pr (gStar K gs) (starF fs) := fun v d sd s1 σ H W st r e Q q => by
  unfold starF at e
  split at e
  · cases r with
    | @lst a vs _ s rs =>
      cases rs with
      | @cons v0 vs0 _ _ r0 r1 =>
        refine ⟨a, v0, vs0, rfl, .inl (.inl (st.le _ _ s)), fun p hp => ?_⟩
        obtain ⟨g1, g2⟩ := st.newV hp (.lst vs0)
        have le := Le.upd (o := HO.lst vs0) (st.free hp)
        exact hs _ _ sd s1 σ _ _ g1 (.cons (r0.le le) (.cons (.lst upd_same (r1.le le)) .nil)) e _ fun σ' H' W' st' k' p' => q σ' H' W' st' (g2.trans k') p'
  · cases e
end Fli
namespace Fli
open PySem PySem.Spec PyProof.Rows L2
variable [HW]
/-! a try whose body raises nothing -/
theorem ps_quiet {X : Cx} {body : List Stmt} {h0 : ExceptHandler} {hds : List ExceptHandler} {pos : Pos} {t : TS} (hb : ∀ (pn : List (Addr × Obj)) (xe : Value → Shared → Prop), PassesOwn (model X.prog X.w) X.A X.env xe → PSs (X.tr pn xe) body t) : PS X (.Try body (h0 :: hds) [] [] pos) t := by
  constructor
  intro pins s σ H D I h
  have ok := I.ok
  refine wpAny_Try_except (wpAny_mono ((hb (X.pn ++ pins) _ PassesOwn.looking).run [] s σ H D (I.toTry _) h) (fun fl s1 z => ?_) fun _ _ he => he)
  cases fl with
  | next => obtain ⟨σ1, H1, J, q⟩ := z; exact wpAny_execs_nil ⟨σ1, H1, J.ofTry ok, q⟩
  | ret u => obtain ⟨v, σ1, H1, J, r, q⟩ := z; exact ⟨v, σ1, H1, J.ofTry ok, r, q⟩
  | brk => obtain ⟨σ1, H1, J, q⟩ := z; exact ⟨σ1, H1, J.ofTry ok, q⟩
  | cont => obtain ⟨σ1, H1, J, q⟩ := z; exact ⟨σ1, H1, J.ofTry ok, q⟩
theorem s_quiet {X : Cx} {pr : List Nat} {body : List Stmt} {h0 : ExceptHandler} {hds : List ExceptHandler} {pos : Pos} {m : MS} (hb : ∀ (pn : List (Addr × Obj)) (xe : Value → Shared → Prop), PassesOwn (model X.prog X.w) X.A X.env xe → SEs (X.tr pn xe) pr body m) : SE X pr (.Try body (h0 :: hds) [] [] pos) m := ps_quiet hb
/-! classes as values, classmethods -/
section
variable {X : Cx} {k n j : Nat} {N ps : List Str} {body : MS} {x c nm : Str} {p pos p2 apos : Pos} {e : Expr} {es : List Expr} {ms : M (List D)} {dd : List D}
theorem pe_makeL {C f : Addr} {fd : FuncData} {sp : Sp} {dvs : List V} {ds : List Value} {E : XK} {CX : CXT} {t : TA} {i : Nat} (Mx : Mk X.K C f) (F : FnOk X.prog X.w X.K X.mg X.base CX k f fd ps sp) (hr : Room (k + 1) X.A) (hN : X.N[i]? = some x) (hv : Vis X.env.scope x) (hb : Binds X.K fd ps ds) (hd : Vals dvs ds) (hx : Passes CX X E) (ha : PA X (e :: es) t)
    (hdb : (x == ("__debug__" : Str)) = false := by decide) (hcd : (x == ("__classdict__" : Str)) = false := by decide) (he : starEach (e :: es) X.env = (false, eval e X.env) :: starEach es X.env := by rfl) (hpl : (backTo pos (starEach es X.env)).any (·.1) = false := by rfl) :
    PE X (.Call (.Name x p) (e :: es) [] pos) (fun σ H Q => σ[i]? = some (some (.ref C)) ∧ tMake C sp dvs E t σ H Q) := by
  constructor
  rintro pins s σ H Q I ⟨hs, ht⟩
  have nm := (pe_var (pos := p) hN hv hdb hcd).run pins s σ H (fun v H1 => v = .ref C ∧ H1 = H) I ⟨.ref C, hs, rfl, rfl⟩
  refine wpAny_Call_Name_kw (thn nm fun u s1 z => ?_)
  obtain ⟨v, H1, I1, r1, rfl, rfl⟩ := z
  cases r1
  have fin := fun (us : List Value) (s2 : Shared) (z : ∃ vs H2, L2.Inv X pins σ H2 s2 ∧ Vals vs us ∧ ∀ x dx, H2 x = none → H2 dx = none → dx ≠ x → sp (.ref x :: (vs ++ dvs)) (upd (upd H2 dx (.own x)) x (.ins C dx [])) (fun v H3 => v = .non ∧ Q (.ref x) H3) E) =>
    let ⟨vs, H2, I2, r, q⟩ := z
    (⟨I2.kIn, run_make Mx F hr hb hd hx I2 r q⟩ : X.K.In s2.heap ∧ wpAny (model X.prog X.w) X.A (call (.ref C) us) (EP X pins σ Q) X.xe s2)
  exact PySem.W.callWith_K (h₀ := X.base) I.ok.mod.kin Mx.kp (thn (ha.run pos pins s1 σ _ _ I1 ht) fin) he hpl
def mkL (i n : Nat) (body : MS) (c : Str) (ms : M (List D)) (dd : List D) : M O := bindM (mVar i) fun d => match d with
  | .cls c' => if c' = c then mkO n body c ms fun xs => xs ++ dd else fun _ => none
  | _ => fun _ => none
theorem o_makeL (i : Nat) (mk : MakeX X.prog X.w X.K X.mg X.base k c N ps dd body) (hr : Room (k + 1) X.A) (hn : N.length = n) (hs : LA X (e :: es) ms) (hl : LenIs ms j) (hj : j + dd.length + 1 = ps.length) (hN : X.N[i]? = some x := by rfl) (hv : Vis X.env.scope x := by first | exact Or.inl rfl | exact Or.inr (Or.inl rfl) | exact Or.inr (Or.inr rfl))
    (hdb : (x == ("__debug__" : Str)) = false := by decide) (hcd : (x == ("__classdict__" : Str)) = false := by decide) (he : starEach (e :: es) X.env = (false, eval e X.env) :: starEach es X.env := by rfl) (hpl : (backTo pos (starEach es X.env)).any (·.1) = false := by rfl) :
    OE X (.Call (.Name x p) (e :: es) [] pos) (mkL i n body c ms dd) := by
  obtain ⟨C, f, fd, dvs, ds, hm, Mx, F, hb, hd, hdd⟩ := mk
  refine PE.imp (pe_makeL (E := E0) (i := i) Mx F hr hN hv hb hd pass0 hs hdb hcd he hpl) fun σ H Q ⟨sd, W, o, sd', st, em, q⟩ => ?_
  obtain ⟨d, s1, e1, em⟩ := bindM_some em
  obtain ⟨e0, rfl⟩ := mVar_some e1
  obtain ⟨v, hv', r⟩ := st.dat i d e0
  cases r with
  | @cls C' c' hm' =>
    dsimp only at em
    split at em
    · rename_i hc
      subst hc
      have z := hm'.symm.trans hm
      cases z
      refine ⟨hv', ?_⟩
      obtain ⟨xs, s2, e2, em⟩ := bindM_some em
      obtain ⟨e3, rfl⟩ := optM_some em
      refine ⟨_, W, xs, _, st, e2, fun vs H1 W1 st1 k1 r1 => ?_⟩
      have r2 := r1.app (hdd W1)
      refine mk_core hn hm st1 k1 r2 ?_ e3 q
      rw [r2.len, List.length_append, hl _ _ _ e2]; exact hj
    · cases em
  | _ => cases em
theorem e_cls {C : Addr} (hg : Gl X x) (hm : X.mg x = some (.ref C)) (hd : (x == ("__debug__" : Str)) = false := by decide) : DE X (.Name x pos) (retM (.cls x)) := e_glob hg hm (v := .ref C) rfl (fun _ => .cls hm) hd
/-- a classmethod -/
def CmX (P : Program) (w : World) (K : PySem.W.Frag) (mg : Str → Option Value) (base : Heap) (k : Nat) (c m : Str) (N ps : List Str) (body : MS) : Prop :=
  ∃ C mc p f fd, mg c = some (.ref C) ∧ ClX.CRead K C mc ∧ ClX.CMet K C mc m p f ∧ FnOk P w K mg base CX0 k f fd ps (spM K mg N ps [] body) ∧ Binds K fd ps []
theorem e_cmX {pl : Sem Bool} {po : Pos} (d : CmX X.prog X.w X.K X.mg X.base k c nm N ps body) (hr : Room k X.A) (hg : Gl X c) (hn : N.length = n) (hs : LA X (e :: es) ms) (hl : LenIs ms j) (hj : j + 1 = ps.length) (hd : (c == ("__debug__" : Str)) = false := by decide)
    (hst : starEach (e :: es) X.env = (false, eval e X.env) :: starEach es X.env := by rfl) (hpl : (backTo po (starEach es X.env)).any (·.1) = false := by rfl)
    (ht : eval (.Call (.Attribute (.Name c p2) nm apos) (e :: es) [] po) X.env = (do
              let ov ← eval (.Name c p2) X.env
              standAt apos.atName
              let (f, first) ← holding [ov] (getMethod ov nm pl)
              callWith po f first (backTo po (starEach (e :: es) X.env)) (backToKw po (keywordEach [] X.env))) := by rfl) :
    DE X (.Call (.Attribute (.Name c p2) nm apos) (e :: es) [] po) (bindM ms fun ds => optM (ownM n body (.cls c :: ds))) := by
  obtain ⟨C, mc, p, f, fd, hm, r, cm, F, hb⟩ := d
  refine PE.imp (ClX.pe_cmeth (E := E0) (pe_glob (v := .ref C) (u := .ref C) hg hm rfl hd) r cm (F.raw hb .nil) hr pass0 hs hst hpl ht) fun σ H Q ⟨sd, W, o, sd', st, em, q⟩ => ?_
  obtain ⟨ds, s1, e1, em⟩ := bindM_some em
  obtain ⟨e2, rfl⟩ := optM_some em
  refine ⟨rfl, sd, W, ds, sd', st, e1, fun vs H1 W1 st1 k1 r1 => ?_⟩
  show spM X.K X.mg N ps [] body ((V.ref C :: vs) ++ []) H1 Q E0
  rw [List.append_nil]
  refine t_own hn ?_ st1 (.cons (.cls hm) r1) e2 fun v H2 W2 st2 k2 r2 => q v H2 W2 st2 (k1.trans k2) r2
  rw [List.length_cons, hl _ _ _ e1]; exact hj
end
end Fli
set_option Elab.async false
set_option linter.all false
set_option maxRecDepth 100000
set_option maxHeartbeats 4000000
namespace Fli
open PySem PySem.Spec PyProof.Rows L2
variable [HW]

/-! what is walked: items, one behind another, whatever the iterator; b: some of them may be new pairs -/
structure Iot (b : Bool) (K : PySem.W.Frag) (mg : Str → Option Value) (W : Hp) (J : It) (items : List D) : Prop where
  go : ∀ i H, Le W H → i < items.length → J.go i H
  stop : ∀ i H, Le W H → items.length ≤ i → J.stop i H
  yld : ∀ i H x H' W', Le W W' → Le W' H → J.yld i H x H' → ∀ d, items[i]? = some d → (H' = H ∧ DR K mg W' x d) ∨ (b = true ∧ ∃ T vs es, x = .ref T ∧ H T = none ∧ H' = upd H T (.tup vs) ∧ d = .tup es ∧ DRs K mg W' vs es)
def tI (b : Bool) (K : PySem.W.Frag) (mg : Str → Option Value) (m : M (List D)) : TI := fun σ H R => ∃ sd W ds sd', St K mg sd σ H W ∧ m sd = some (ds, sd') ∧ ∀ J H' W', St K mg sd' σ H' W' → Kp sd σ H W sd' σ H' W' → Iot b K mg W' J ds → R J H'
abbrev IW (b : Bool) (X : Cx) (tg it : Expr) (m : M (List D)) : Prop := PI X tg it (tI b X.K X.mg m)
theorem pi_or {X : Cx} {tg it : Expr} {a b : TI} (h1 : PI X tg it a) (h2 : PI X tg it b) : PI X tg it (fun σ H R => a σ H R ∨ b σ H R) := ⟨fun pins s σ H R I h => h.elim (h1.run pins s σ H R I) (h2.run pins s σ H R I)⟩
theorem pi_imp {X : Cx} {tg it : Expr} {a b : TI} (h : PI X tg it a) (f : ∀ σ H R, b σ H R → a σ H R) : PI X tg it b := ⟨fun pins s σ H R I q => h.run pins s σ H R I (f σ H R q)⟩
section
variable {b : Bool} {K : PySem.W.Frag} {mg : Str → Option Value} {W : Hp}
theorem iot_lst {a : Addr} {vs : List V} {ds : List D} (s : W a = some (.lst vs)) (r : DRs K mg W vs ds) : Iot b K mg W (Itl K a) ds where
  go i H le hi := ⟨vs, vs[i]'(by rw [r.len]; exact hi), .inl (.inl (le _ _ s)), by simp⟩
  stop i H le hi := ⟨vs, .inl (.inl (le _ _ s)), by rw [r.len]; exact hi⟩
  yld i H x H' W' l1 l2 y d hd := by
    obtain ⟨rfl, y⟩ := y
    obtain ⟨d', e, rd⟩ := r.get' (y vs (.inl (.inl (l2 _ _ (l1 _ _ s)))))
    rw [hd] at e; cases e
    exact .inl ⟨rfl, rd.le l1⟩
theorem iot_tup {a : Addr} {vs : List V} {ds : List D} (s : SqF K W a vs) (r : DRs K mg W vs ds) : Iot b K mg W (Itt K a) ds where
  go i H le hi := ⟨vs, vs[i]'(by rw [r.len]; exact hi), st_le le s, by simp⟩
  stop i H le hi := ⟨vs, st_le le s, by rw [r.len]; exact hi⟩
  yld i H x H' W' l1 l2 y d hd := by
    obtain ⟨rfl, y⟩ := y
    obtain ⟨d', e, rd⟩ := r.get' (y vs (st_le (l1.trans l2) s))
    rw [hd] at e; cases e
    exact .inl ⟨rfl, rd.le l1⟩
theorem iot_str {z : Str} : Iot b K mg W (Its z) (z.cps.toList.map fun c => .str ⟨#[c]⟩) where
  go i H le hi := show i < z.cps.size by simpa using hi
  stop i H le hi := show z.cps.size ≤ i by simpa using hi
  yld i H x H' W' l1 l2 y d hd := by
    obtain ⟨rfl, c, hc, rfl⟩ := y
    rw [str_it hc] at hd; cases hd
    exact .inl ⟨rfl, .str _⟩
theorem iot_rng {lo : Int} {n : Nat} : Iot b K mg W (Itr lo n) (rngD lo n) where
  go i H le hi := show i < n by simpa [rngD] using hi
  stop i H le hi := show n ≤ i by simpa [rngD] using hi
  yld i H x H' W' l1 l2 y d hd := by
    obtain ⟨rfl, rfl⟩ := y
    have hi : i < n := by have := (List.getElem?_eq_some_iff.mp hd).1; simpa [rngD] using this
    rw [rngD_get hi] at hd; cases hd
    exact .inl ⟨rfl, .int _⟩
theorem iot_enT {a : Addr} {vs : List V} {ds : List D} (s : SqF K W a vs) (r : DRs K mg W vs ds) : Iot true K mg W (IteT K a) (enumD ds) where
  go i H le hi := ⟨vs, vs[i]'(by rw [r.len]; simpa [enumD] using hi), st_le le s, by simp⟩
  stop i H le hi := ⟨vs, st_le le s, by rw [r.len]; simpa [enumD] using hi⟩
  yld i H x H' W' l1 l2 y d hd := by
    obtain ⟨T, x, rfl, hT, rfl, y⟩ := y
    obtain ⟨d', e, rd⟩ := r.get' (y vs (st_le (l1.trans l2) s))
    rw [enumD_get e] at hd; cases hd
    exact .inr ⟨rfl, T, _, _, rfl, hT, rfl, rfl, .cons (.int _) (.cons (rd.le l1) .nil)⟩
theorem iot_enL {a : Addr} {vs : List V} {ds : List D} (s : W a = some (.lst vs)) (r : DRs K mg W vs ds) : Iot true K mg W (Ite K a) (enumD ds) where
  go i H le hi := ⟨vs, vs[i]'(by rw [r.len]; simpa [enumD] using hi), .inl (.inl (le _ _ s)), by simp⟩
  stop i H le hi := ⟨vs, .inl (.inl (le _ _ s)), by rw [r.len]; simpa [enumD] using hi⟩
  yld i H x H' W' l1 l2 y d hd := by
    obtain ⟨T, x, rfl, hT, rfl, y⟩ := y
    obtain ⟨d', e, rd⟩ := r.get' (y vs (.inl (.inl (l2 _ _ (l1 _ _ s)))))
    rw [enumD_get e] at hd; cases hd
    exact .inr ⟨rfl, T, _, _, rfl, hT, rfl, rfl, .cons (.int _) (.cons (rd.le l1) .nil)⟩
end
section
variable {X : Cx} {b : Bool} {tg e a : Expr} {m : M D} {ms : M (List D)} {p p3 tpos : Pos} {elts : List Expr} {kk : Nat}
theorem iw_seq (h : DE X e m) : IW b X tg e (bindM m fun d => optM (itD d)) := pi_imp (pi_or (pi_list (tg := tg) h) (pi_or (pi_tup (tg := tg) h) (pi_str (tg := tg) h))) fun σ H R ⟨sd, W, ds, sd', st, em, q⟩ => by
  obtain ⟨d, s1, e1, em⟩ := bindM_some em
  obtain ⟨e2, rfl⟩ := optM_some em
  cases d with
  | lst es =>
    cases e2
    refine .inl ⟨sd, W, _, sd', st, e1, fun v H1 W1 st1 k1 r1 => ?_⟩
    cases r1 with
    | @lst a vs _ sa ra => exact ⟨a, rfl, ⟨vs, .inl (.inl (st1.le _ _ sa))⟩, q _ H1 W1 st1 k1 (iot_lst sa ra)⟩
  | tup es =>
    cases e2
    refine .inr (.inl ⟨sd, W, _, sd', st, e1, fun v H1 W1 st1 k1 r1 => ?_⟩)
    cases r1 with
    | @tup a vs _ sa ra => exact ⟨a, rfl, ⟨vs, st_le st1.le sa⟩, q _ H1 W1 st1 k1 (iot_tup sa ra)⟩
  | str z =>
    cases e2
    refine .inr (.inr ⟨sd, W, _, sd', st, e1, fun v H1 W1 st1 k1 r1 => ?_⟩)
    cases r1
    exact ⟨z, rfl, q _ H1 W1 st1 k1 iot_str⟩
  | _ => cases e2
theorem iw_rng1 (hi : LA X [a] ms) (hr : Gl X "range") (hm : X.mg "range" = none) (hs : starEach [a] X.env = [(false, eval a X.env)] := by rfl) : IW b X tg (.Call (.Name "range" p) [a] [] p3) (bindM ms fun ds => optM (rng1 ds)) := pi_imp (pi_range1 (tg := tg) hr hm hi hs) fun σ H R ⟨sd, W, ds, sd', st, em, q⟩ => by
  obtain ⟨d, s1, e1, em⟩ := bindM_some em
  obtain ⟨e2, rfl⟩ := optM_some em
  obtain ⟨j, rfl, hj, rfl⟩ := rng1_some e2
  refine ⟨sd, W, _, sd', st, e1, fun v H1 W1 st1 k1 r1 => ?_⟩
  cases r1 with
  | cons r1 r2 =>
    cases r1; cases r2
    exact ⟨j, rfl, hj.1, hj.2, q _ H1 W1 st1 k1 iot_rng⟩
theorem iw_enum (hi : DE X e m) (hr : Gl X "enumerate") (hm : X.mg "enumerate" = none) (hs : starEach [e] X.env = [(false, eval e X.env)] := by rfl) (he : starEach (e :: []) X.env = (false, eval e X.env) :: starEach [] X.env := by rfl) :
    IW true X (.Tuple elts kk tpos) (.Call (.Name "enumerate" p) [e] [] p3) (bindM m fun d => optM ((seqLs d).map enumD)) := pi_imp (pi_or (pi_enumT (elts := elts) (kk := kk) (tpos := tpos) hr hm (pa_cons hi pa_nil he) hs) (pi_enum (elts := elts) (kk := kk) (tpos := tpos) hr hm (pa_cons hi pa_nil he) hs)) fun σ H R ⟨sd, W, ds, sd', st, em, q⟩ => by
  obtain ⟨d, s1, e1, em⟩ := bindM_some em
  obtain ⟨e2, rfl⟩ := optM_some em
  cases d with
  | tup es =>
    cases e2
    refine .inl ⟨sd, W, _, sd', st, e1, fun v H1 W1 st1 k1 r1 => ?_⟩
    cases r1 with
    | @tup a vs _ sa ra => exact ⟨a, vs, rfl, st_le st1.le sa, q _ H1 W1 st1 k1 (iot_enT sa ra)⟩
  | lst es =>
    cases e2
    refine .inr ⟨sd, W, _, sd', st, e1, fun v H1 W1 st1 k1 r1 => ?_⟩
    cases r1 with
    | @lst a vs _ sa ra => exact ⟨a, vs, rfl, .inl (.inl (st1.le _ _ sa)), q _ H1 W1 st1 k1 (iot_enL sa ra)⟩
  | _ => cases e2
end
/-! targets that take new pairs, too -/
def TGx (b : Bool) (K : PySem.W.Frag) (mg : Str → Option Value) (pr : List Nat) (g : TG) (f : D → S → Option S) : Prop := TGk K mg pr g f ∧ (b = true → ∀ T vs es sd s1 σ H W, H T = none → St K mg sd σ (upd H T (.tup vs)) W → DRs K mg W vs es → f (.tup es) sd = some s1 →
  ∀ Q : L2.St → Hp → Prop, (∀ σ1 H1 W1, St K mg s1 σ1 H1 W1 → Kp sd σ (upd H T (.tup vs)) W s1 σ1 H1 W1 → Pr pr σ σ1 → Q σ1 H1) → g (.ref T) σ (upd H T (.tup vs)) Q)
section
variable {K : PySem.W.Frag} {mg : Str → Option Value} {pr : List Nat} {g : TG} {gs : TGs} {f : D → S → Option S} {fs : List D → S → Option S}
theorem tgx_f (h : TGk K mg pr g f) : TGx false K mg pr g f := ⟨h, fun z => nomatch z⟩
theorem tgx_t {b : Bool} {n : Nat} (h : TGs' K mg pr gs fs) : TGx b K mg pr (gTup K n gs) (tupF n fs) := by
  refine ⟨tg_tup h, fun _ T vs es sd s1 σ H W hT st r e Q q => ?_⟩
  unfold tupF at e
  dsimp only at e
  split at e
  · rename_i hl
    exact ⟨T, vs, rfl, .inl (.inl upd_same), by rw [r.len]; exact hl, h vs es sd s1 σ _ W st r e Q q⟩
  · cases e
end
/-! a new object that is being filled -/
def Mono (R : Hp → HO → Prop) : Prop := ∀ W W' u, Le W W' → R W u → R W' u
structure Fil (K : PySem.W.Frag) (mg : Str → Option Value) (R : Hp → HO → Prop) (p : Addr) (s0 : S) (σ0 : L2.St) (H0 W0 : Hp) (s : S) (σ : L2.St) (H W : Hp) : Prop where
  st : St K mg s σ H W
  kp : Kp s0 σ0 H0 W0 s σ H W
  w : W p = none
  no : ¬ Own s σ p
  ob : ∃ u, H p = some u ∧ R W u
section
variable {K : PySem.W.Frag} {mg : Str → Option Value} {R : Hp → HO → Prop} {p : Addr} {s0 s s' : S} {σ0 σ σ' : L2.St} {H0 W0 H W H' W' : Hp}
theorem Fil.step (mono : Mono R) (f : Fil K mg R p s0 σ0 H0 W0 s σ H W) (st : St K mg s' σ' H' W') (k : Kp s σ H W s' σ' H' W') : Fil K mg R p s0 σ0 H0 W0 s' σ' H' W' := by
  obtain ⟨u, hu, r⟩ := f.ob
  refine ⟨st, f.kp.trans k, k.new p f.w (by rw [hu]; simp) f.no, fun z => (k.own p z).elim f.no fun z => (by rw [hu] at z; cases z), u, k.keep p u hu f.no, mono _ _ _ k.le r⟩
theorem Fil.wiped {vs : List Nat} (f : Fil K mg R p s0 (L2.wipe σ0 vs) H0 W0 s σ H W) (h : L2.wipe σ vs = L2.wipe σ0 vs) : Fil K mg R p s0 (L2.wipe σ0 vs) H0 W0 (wipeS vs s) (L2.wipe σ0 vs) H W := by
  refine ⟨by rw [← h]; exact f.st.wipe, ⟨f.kp.le, f.kp.keep, f.kp.new, fun a z => f.kp.own a (by rw [← h] at z; exact z.wipe), f.kp.there⟩, f.w, fun z => f.no (by rw [← h] at z; exact z.wipe), f.ob⟩
theorem Fil.wiped1 {vs : List Nat} (f : Fil K mg R p s0 σ0 H0 W0 s σ H W) : Fil K mg R p s0 σ0 H0 W0 (wipeS vs s) (L2.wipe σ vs) H W :=
  ⟨f.st.wipe, ⟨f.kp.le, f.kp.keep, f.kp.new, fun a z => f.kp.own a z.wipe, f.kp.there⟩, f.w, fun z => f.no z.wipe, f.ob⟩
theorem Fil.put {R' : Hp → HO → Prop} {u : HO} (f : Fil K mg R p s0 σ0 H0 W0 s σ H W) (h0 : H0 p = none) (r : R' W u) : Fil K mg R' p s0 σ0 H0 W0 s σ (upd H p u) W := by
  refine ⟨f.st.mut f.w f.no, ⟨f.kp.le, fun a o h q => ?_, f.kp.new, f.kp.own, fun a h => ?_⟩, f.w, f.no, u, upd_same, r⟩
  · rw [upd_ne (ne_of_none h h0)]; exact f.kp.keep a o h q
  · by_cases z : a = p
    · rw [z, upd_same]; simp
    · rw [upd_ne z]; exact f.kp.there a h
/-- an item is handed out -/
theorem Fil.item {b : Bool} {J : It} {items : List D} {i : Nat} {x : V} {d : D} {pr : List Nat} {g : TG} {asg : D → S → Option S} {s1 : S} {W1 : Hp} (mono : Mono R) (f : Fil K mg R p s0 σ0 H0 W0 s σ H W) (io : Iot b K mg W1 J items) (le : Le W1 W) (y : J.yld i H x H') (hd : items[i]? = some d) (hg : TGx b K mg pr g asg) (e : asg d s = some s1)
    {Q : L2.St → Hp → Prop} (q : ∀ σ2 H2 W2, Le W W2 → Fil K mg R p s0 σ0 H0 W0 s1 σ2 H2 W2 → Pr pr σ σ2 → Q σ2 H2) : g x σ H' Q := by
  rcases io.yld i H x H' W le f.st.le y d hd with ⟨rfl, r⟩ | ⟨hb, T, vs, es, rfl, hT, rfl, rfl, r⟩
  · exact hg.1 x d s s1 σ _ W f.st r e Q fun σ2 H2 W2 st2 k2 p2 => q σ2 H2 W2 k2.le (f.step mono st2 k2) p2
  · obtain ⟨g1, g2⟩ := f.st.newO hT (.tup vs)
    exact hg.2 hb T vs es s s1 σ H W hT g1 r e Q fun σ2 H2 W2 st2 k2 p2 => q σ2 H2 W2 (g2.le.trans k2.le) ((f.step mono g1 g2).step mono st2 k2) p2
end
/-! two fors in one comprehension -/
def lc2L (vs : List Nat) (asg : D → S → Option S) (c : M Bool) (inn : M (List D)) (vs1 : List Nat) (asg1 : D → S → Option S) (c1 : M Bool) (elt : M D) : List D → List D → M (List D)
  | [], acc => fun s => some (acc, s)
  | d :: ds, acc => fun s => (asg d s).bind fun s1 => (c s1).bind fun p => match p.1 with
    | true => (inn p.2).bind fun q => (compL vs1 asg1 c1 elt q.1 acc (wipeS vs1 q.2)).bind fun r => lc2L vs asg c inn vs1 asg1 c1 elt ds r.1 (wipeS vs r.2)
    | false => lc2L vs asg c inn vs1 asg1 c1 elt ds acc (wipeS vs p.2)
def lc2M (mi : M (List D)) (vs : List Nat) (asg : D → S → Option S) (c : M Bool) (inn : M (List D)) (vs1 : List Nat) (asg1 : D → S → Option S) (c1 : M Bool) (elt : M D) : M O := fun s => (mi s).bind fun q => if noOwn vs q.2 = true then (lc2L vs asg c inn vs1 asg1 c1 elt q.1 [] (wipeS vs q.2)).map fun r => (.lst r.1, restS q.2 vs r.2) else none
def lstR (K : PySem.W.Frag) (mg : Str → Option Value) (acc : List D) : Hp → HO → Prop := fun W u => ∃ av, u = .lst av ∧ DRs K mg W av acc
theorem lstR_mono {K : PySem.W.Frag} {mg : Str → Option Value} {acc : List D} : Mono (lstR K mg acc) := fun W W' u le ⟨av, e, r⟩ => ⟨av, e, r.le le⟩
theorem wipe_sub {σ : L2.St} {vs vs1 : List Nat} (h : ∀ i ∈ vs1, i ∈ vs) : L2.wipe (L2.wipe σ vs1) vs = L2.wipe σ vs :=
  wipe_eq (fun j hj => by rw [wipe_get, if_neg fun z => hj (h j z)]) (by rw [wipe_length])
section
variable {K : PySem.W.Frag} {mg : Str → Option Value} {b b1 : Bool} {mi inn : M (List D)} {vs vs1 : List Nat} {g g1 : TG} {asg asg1 : D → S → Option S} {c c1 : M Bool} {el : M D}
theorem t_lc2 (hf : TGx b K mg [] g asg) (hw : TGw vs g) (hf1 : TGx b1 K mg [] g1 asg1) (hw1 : TGw vs1 g1) (hv : ∀ i ∈ vs1, i ∈ vs) {σ : L2.St} {H : Hp} {Q : VK} (h : tO K mg (lc2M mi vs asg c inn vs1 asg1 c1 el) σ H Q) :
    tLc2 (tI b K mg mi) g (tB K mg c) (tI b1 K mg inn) g1 (tB K mg c1) (tD K mg el) vs vs1 σ H Q := by
  obtain ⟨sd, W, o, sd', st, em, q⟩ := h
  simp only [lc2M, Option.bind_eq_some_iff] at em
  obtain ⟨⟨ds, s1⟩, e1, em⟩ := em
  dsimp only at em
  split at em
  case isFalse => cases em
  rename_i no
  simp only [Option.map_eq_some_iff] at em
  obtain ⟨r, e2, em⟩ := em
  cases em
  refine ⟨sd, W, ds, s1, st, e1, fun J H1 W1 st1 k1 io Dl hD => ?_⟩
  let Nx (i : Nat) (H' : Hp) : Prop := ∃ s' W' acc, Fil K mg (lstR K mg acc) Dl (wipeS vs s1) (L2.wipe σ vs) H1 W1 s' (L2.wipe σ vs) H' W' ∧ lc2L vs asg c inn vs1 asg1 c1 el (ds.drop i) acc s' = some r
  refine ⟨fun i m H' => Nx i H' ∧ m + i = ds.length, ⟨ds.length, ⟨wipeS vs s1, W1, [], ?_, e2⟩, rfl⟩, ?_⟩
  · obtain ⟨z1, z2⟩ := (st1.wipe (vs := vs)).newO hD (.lst [])
    exact ⟨z1, z2, st1.free hD, fun z => st1.notOwn hD z.wipe, _, upd_same, [], rfl, .nil⟩
  rintro i m H' ⟨⟨s', W', acc, f, em⟩, hm⟩
  have lW : Le W1 W' := f.kp.le
  by_cases hi : i < ds.length
  · refine .inr ⟨io.go i H' (lW.trans f.st.le) hi, Nx (i + 1), fun H2 n => ⟨m - 1, by omega, n, by omega⟩, ?_⟩
    intro x H2 y
    rw [List.drop_eq_getElem_cons hi] at em
    simp only [lc2L, Option.bind_eq_some_iff] at em
    obtain ⟨s2, a1, ⟨k, s3⟩, a2, em⟩ := em
    have ww : L2.wipe (L2.wipe σ vs) vs = L2.wipe σ vs := wipe_wipe
    have key := hw x (L2.wipe σ vs) H2 (fun σ2 H3 => tB K mg c σ2 H3 fun kb H4 => if kb = true then tI b1 K mg inn σ2 H4 fun J1 H5 => ∃ W1 : Nat → Nat → Hp → Prop, (∃ m, W1 0 m H5) ∧ ∀ j k H, W1 j k H →
      (J1.stop j H ∧ Nx (i + 1) H) ∨ (J1.go j H ∧ ∃ Nx1 : Hp → Prop, (∀ H', Nx1 H' → ∃ k', k' < k ∧ W1 (j + 1) k' H') ∧ ∀ x H', J1.yld j H x H' → g1 x (L2.wipe σ2 vs1) H' fun σ3 H5 => L2.wipe σ3 vs1 = L2.wipe σ2 vs1 ∧ tB K mg c1 σ3 H5 fun b H6 =>
        if b = true then tD K mg el σ3 H6 fun y H7 => ∃ acc, H7 Dl = some (.lst acc) ∧ acc.length < sizeLine ∧ Nx1 (upd H7 Dl (.lst (acc ++ [y]))) else Nx1 H6) else Nx (i + 1) H4)
      (f.item lstR_mono io lW y (List.getElem?_eq_getElem hi) hf a1 fun σ2 H3 W3 _ f2 _ hz => ?_)
    · rw [ww] at key; exact key
    rw [ww] at hz
    refine ⟨s2, W3, k, s3, f2.st, a2, fun H4 W4 st4 k4 => ?_⟩
    have f4 := f2.step lstR_mono st4 k4
    cases k with
    | false => exact iteF ⟨wipeS vs s3, W4, acc, f4.wiped hz, em⟩
    | true =>
      refine iteT ?_
      simp only [Option.bind_eq_some_iff] at em
      obtain ⟨⟨es, s5⟩, a3, r1, a4, em⟩ := em
      refine ⟨s3, W4, es, s5, f4.st, a3, fun J1 H5 W5 st5 k5 io1 => ?_⟩
      have f5 := f4.step lstR_mono st5 k5
      let In (j : Nat) (H' : Hp) : Prop := ∃ s' W' acc, Le W5 W' ∧ Fil K mg (lstR K mg acc) Dl (wipeS vs s1) (L2.wipe σ vs) H1 W1 s' (L2.wipe σ2 vs1) H' W' ∧ compL vs1 asg1 c1 el (es.drop j) acc s' = some r1
      refine ⟨fun j k H' => In j H' ∧ k + j = es.length, ⟨es.length, ⟨wipeS vs1 s5, W5, acc, Le.refl _, f5.wiped1, a4⟩, rfl⟩, ?_⟩
      rintro j kk H6 ⟨⟨s6, W6, acc6, le6, f6, em6⟩, hk⟩
      by_cases hj : j < es.length
      · refine .inr ⟨io1.go j H6 (le6.trans f6.st.le) hj, In (j + 1), fun H7 n => ⟨kk - 1, by omega, n, by omega⟩, ?_⟩
        intro x7 H7 y7
        rw [List.drop_eq_getElem_cons hj] at em6
        simp only [compL, Option.bind_eq_some_iff] at em6
        obtain ⟨s7, b1', ⟨k7, s8⟩, b2, em6⟩ := em6
        have w1 : L2.wipe (L2.wipe σ2 vs1) vs1 = L2.wipe σ2 vs1 := wipe_wipe
        have key1 := hw1 x7 (L2.wipe σ2 vs1) H7 (fun σ3 H5 => tB K mg c1 σ3 H5 fun b H6 => if b = true then tD K mg el σ3 H6 fun y H7 => ∃ acc, H7 Dl = some (.lst acc) ∧ acc.length < sizeLine ∧ In (j + 1) (upd H7 Dl (.lst (acc ++ [y]))) else In (j + 1) H6)
          (f6.item lstR_mono io1 le6 y7 (List.getElem?_eq_getElem hj) hf1 b1' fun σ3 H8 W8 l8 f8 _ hz1 => ?_)
        · rw [w1] at key1; exact key1
        rw [w1] at hz1
        refine ⟨s7, W8, k7, s8, f8.st, b2, fun H9 W9 st9 k9 => ?_⟩
        have f9 := f8.step lstR_mono st9 k9
        have back : ∀ {acc : List D} {s : S} {H W : Hp}, Fil K mg (lstR K mg acc) Dl (wipeS vs s1) (L2.wipe σ vs) H1 W1 s σ3 H W → Fil K mg (lstR K mg acc) Dl (wipeS vs s1) (L2.wipe σ vs) H1 W1 (wipeS vs1 s) (L2.wipe σ2 vs1) H W := fun f => by rw [← hz1]; exact f.wiped1
        have l9 : Le W5 W9 := (le6.trans l8).trans k9.le
        cases k7 with
        | false => exact iteF ⟨wipeS vs1 s8, W9, acc6, l9, back f9, em6⟩
        | true =>
          refine iteT ?_
          simp only [Option.bind_eq_some_iff] at em6
          obtain ⟨⟨y8, s10⟩, b3, em6⟩ := em6
          split at em6
          case isFalse => cases em6
          rename_i hsz
          refine ⟨s8, W9, y8, s10, f9.st, b3, fun v H10 W10 st10 k10 r10 => ?_⟩
          have f10 := f9.step lstR_mono st10 k10
          obtain ⟨u, hu, av, rfl, ra⟩ := f10.ob
          exact ⟨av, hu, by rw [ra.len]; exact hsz, wipeS vs1 s10, W10, acc6 ++ [y8], l9.trans k10.le, back (f10.put hD ⟨av ++ [v], rfl, ra.app (.cons r10 .nil)⟩), em6⟩
      · refine .inl ⟨io1.stop j H6 (le6.trans f6.st.le) (by omega), ?_⟩
        rw [List.drop_eq_nil_of_le (by omega)] at em6
        cases em6
        refine ⟨wipeS vs s6, W6, acc6, ?_, em⟩
        have hz6 : L2.wipe (L2.wipe σ2 vs1) vs = L2.wipe σ vs := (wipe_sub hv).trans hz
        exact f6.wiped hz6
  · rw [List.drop_eq_nil_of_le (by omega)] at em
    cases em
    refine .inl ⟨io.stop i H' (lW.trans f.st.le) (by omega), ?_⟩
    obtain ⟨u, hu, av, rfl, ra⟩ := f.ob
    obtain ⟨z1, z2⟩ := f.st.rest st1 f.kp.le no
    exact q Dl H' W' z1 (k1.trans ⟨f.kp.le, fun a o h q => f.kp.keep a o h fun z => q z.wipe, fun a h h' q => f.kp.new a h h' fun z => q z.wipe, fun a h => (f.kp.own a (z2 a h)).imp (fun z => z.wipe) id, f.kp.there⟩) ⟨f.w, av, hu, ra⟩ (fun z => f.no (z2 _ z)) (k1.fresh hD)
end
end Fli
set_option Elab.async false
set_option linter.all false
set_option maxRecDepth 100000
set_option maxHeartbeats 4000000
namespace Fli
open PySem PySem.Spec PyProof.Rows L2
variable [HW]

abbrev Blks (X : Cx) (scope : Scope) (P : Cx → Prop) : Prop := ∀ (s : Shared) (H : Hp) (C : Addr) (cl : List (Str × Addr)) (fp : List Addr), P (X.blk s H scope (compEnvC scope cl C X.env) fp)
section
variable {X : Cx} {b b1 : Bool} {elt tg it tg1 it1 : Expr} {ifs ifs1 : List Expr} {scope : Scope} {own : List (Str × Nat)} {vs vs1 : List Nat} {pos spos py : Pos} {g g1 : TG} {asg asg1 : D → S → Option S} {mi inn : M (List D)} {c c1 : M Bool} {el : M D} {y : Str} {i : Nat} {pr : List Nat}
theorem o_lc2 (hvs : own.map (fun x => x.2) = vs) (hc : X.calm = true) (hN : X.N.Nodup) (hi : IW b X tg it mi) (ok : BlkOk X.N X.env.scope scope own) (hv : ∀ i ∈ vs1, i ∈ vs)
    (hg : Blks X scope fun Y => PG Y tg g) (hf : TGx b X.K X.mg [] g asg) (hw : TGw vs g) (ht : Blks X scope fun Y => PTs Y ifs (tB X.K X.mg c))
    (hi1 : Blks X scope fun Y => PI Y tg1 it1 (tI b1 X.K X.mg inn)) (hg1 : Blks X scope fun Y => PG Y tg1 g1) (hf1 : TGx b1 X.K X.mg [] g1 asg1) (hw1 : TGw vs1 g1) (ht1 : Blks X scope fun Y => PTs Y ifs1 (tB X.K X.mg c1))
    (he : Blks X scope fun Y => PE Y elt (tD X.K X.mg el)) (hs : ∀ x, foldedSetIterable it X.env x = pure x := by intro _; rfl) (hs1 : ∀ env x, foldedSetIterable it1 env x = pure x := by intro _ _; rfl) :
    OE X (.ListComp elt [⟨tg, it, ifs, 0⟩, ⟨tg1, it1, ifs1, 0⟩] scope pos) (lc2M mi vs asg c inn vs1 asg1 c1 el) := by
  subst hvs
  exact PE.imp (pe_lc2 hc hN hi ok hv hg ht hi1 hg1 ht1 he hs hs1) fun σ H Q h => t_lc2 hf hw hf1 hw1 hv h
theorem s_setLc2 (hvs : own.map (fun x => x.2) = vs) (hc : X.calm = true) (hN : X.N.Nodup) (hi : IW b X tg it mi) (ok : BlkOk X.N X.env.scope scope own) (hv : ∀ i ∈ vs1, i ∈ vs)
    (hg : Blks X scope fun Y => PG Y tg g) (hf : TGx b X.K X.mg [] g asg) (hw : TGw vs g) (ht : Blks X scope fun Y => PTs Y ifs (tB X.K X.mg c))
    (hi1 : Blks X scope fun Y => PI Y tg1 it1 (tI b1 X.K X.mg inn)) (hg1 : Blks X scope fun Y => PG Y tg1 g1) (hf1 : TGx b1 X.K X.mg [] g1 asg1) (hw1 : TGw vs1 g1) (ht1 : Blks X scope fun Y => PTs Y ifs1 (tB X.K X.mg c1))
    (he : Blks X scope fun Y => PE Y elt (tD X.K X.mg el)) (hy : X.N[i]? = some y) (hyl : X.env.scope.names.lookup y = some .local) (hp : i ∉ pr) (hs : ∀ x, foldedSetIterable it X.env x = pure x := by intro _; rfl) (hs1 : ∀ env x, foldedSetIterable it1 env x = pure x := by intro _ _; rfl)
    (hsw : swapsWith (.ListComp elt [⟨tg, it, ifs, 0⟩, ⟨tg1, it1, ifs1, 0⟩] scope pos) (some (.Name y py)) spos.line X.env = pure true := by exact sw_true rfl rfl rfl (by decide +kernel)) :
    SE X pr (.Assign [.Name y py] (.ListComp elt [⟨tg, it, ifs, 0⟩, ⟨tg1, it1, ifs1, 0⟩] scope pos) spos) (asgO (lc2M mi vs asg c inn vs1 asg1 c1 el) i) := by
  subst hvs
  exact PS.imp (ps_setLc2 hc hN hy hyl hsw hi ok hv hg ht hi1 hg1 ht1 he hs hs1) fun E σ H h => t_lc2 hf hw hf1 hw1 hv (t_asgO hp h)
end
/-! dicts with ints and texts for keys -/
def keyD : D → Option Key
  | .int i => some (.inl i)
  | .str x => some (.inr x)
  | _ => none
section
variable {κ β : Type} [DecidableEq κ]
def valP (kvs : List (κ × β)) (k : κ) : Option β := (kvs.find? fun q => decide (q.1 = k)).map (·.2)
def putP (kvs : List (κ × β)) (k : κ) (y : β) : List (κ × β) := if (kvs.any fun q => decide (q.1 = k)) = true then kvs.map fun q => if q.1 = k then (q.1, y) else q else kvs ++ [(k, y)]
theorem len_putP (kvs : List (κ × β)) (k : κ) (y : β) : (putP kvs k y).length ≤ kvs.length + 1 := by
  unfold putP
  split <;> simp
end
section
variable {K : PySem.W.Frag} {mg : Str → Option Value} {W : Hp}
theorem keyD_v {v : V} {d : D} {k : Key} (r : DR K mg W v d) (h : keyD d = some k) : v = kV k := by
  cases r <;> cases h <;> rfl
theorem DKs.len : ∀ {gs : List (Key × V)} {kvs : List (Key × D)}, DKs K mg W gs kvs → gs.length = kvs.length
  | _, _, .nil => rfl
  | _, _, .cons _ r => by simp [DKs.len r]
theorem DKs.any {k : Key} : ∀ {gs : List (Key × V)} {kvs : List (Key × D)}, DKs K mg W gs kvs → (gs.any fun q => decide (q.1 = k)) = kvs.any fun q => decide (q.1 = k)
  | _, _, .nil => rfl
  | _, _, .cons _ r => by simp [DKs.any r]
theorem DKs.val {k : Key} : ∀ {gs : List (Key × V)} {kvs : List (Key × D)}, DKs K mg W gs kvs → (∃ v d, valV gs k = some v ∧ valP kvs k = some d ∧ DR K mg W v d) ∨ (valV gs k = none ∧ valP kvs k = none)
  | _, _, .nil => .inr ⟨rfl, rfl⟩
  | _, _, @DKs.cons _ _ _ _ n v gs d fs h r => by
    by_cases e : n = k
    · exact .inl ⟨v, d, valV_pos (p := (n, v)) e, by unfold valP; simp [e], h⟩
    · have e1 : valV ((n, v) :: gs) k = valV gs k := valV_neg (p := (n, v)) e
      have e2 : valP ((n, d) :: fs) k = valP fs k := by unfold valP; simp [e]
      rw [e1, e2]; exact DKs.val r
theorem DKs.mapP {k : Key} {v : V} {d : D} (h : DR K mg W v d) : ∀ {gs : List (Key × V)} {kvs : List (Key × D)}, DKs K mg W gs kvs → DKs K mg W (gs.map fun q => if q.1 = k then (q.1, v) else q) (kvs.map fun q => if q.1 = k then (q.1, d) else q)
  | _, _, .nil => .nil
  | _, _, @DKs.cons _ _ _ _ n w gs e fs g r => by
    by_cases z : n = k
    · simp only [List.map_cons, if_pos z]; exact .cons h (DKs.mapP h r)
    · simp only [List.map_cons, if_neg z]; exact .cons g (DKs.mapP h r)
theorem DKs.app : ∀ {gs hs : List (Key × V)} {kvs ls : List (Key × D)}, DKs K mg W gs kvs → DKs K mg W hs ls → DKs K mg W (gs ++ hs) (kvs ++ ls)
  | _, _, _, _, .nil, s => s
  | _, _, _, _, .cons h r, s => .cons h (DKs.app r s)
theorem DKs.put {k : Key} {v : V} {d : D} {gs : List (Key × V)} {kvs : List (Key × D)} (r : DKs K mg W gs kvs) (h : DR K mg W v d) : DKs K mg W (putK gs k v) (putP kvs k d) := by
  unfold putK putP
  rw [r.any]
  split
  · exact DKs.mapP h r
  · exact r.app (.cons h .nil)
end
/-! {k: v for ..} -/
def dcL (vs : List Nat) (asg : D → S → Option S) (c : M Bool) (kx vx : M D) : List D → List (Key × D) → M (List (Key × D))
  | [], acc => fun s => some (acc, s)
  | d :: ds, acc => fun s => (asg d s).bind fun s1 => (c s1).bind fun p => match p.1 with
    | true => (kx p.2).bind fun q => (vx q.2).bind fun r => (keyD q.1).bind fun k => if acc.length < sizeLine then dcL vs asg c kx vx ds (putP acc k r.1) (wipeS vs r.2) else none
    | false => dcL vs asg c kx vx ds acc (wipeS vs p.2)
def dcM (mi : M (List D)) (vs : List Nat) (asg : D → S → Option S) (c : M Bool) (kx vx : M D) : M O := fun s => (mi s).bind fun q => if noOwn vs q.2 = true then (dcL vs asg c kx vx q.1 [] (wipeS vs q.2)).map fun r => (.dic r.1, restS q.2 vs r.2) else none
def dicR (K : PySem.W.Frag) (mg : Str → Option Value) (acc : List (Key × D)) : Hp → HO → Prop := fun W u => ∃ av, u = .dK av ∧ DKs K mg W av acc
theorem dicR_mono {K : PySem.W.Frag} {mg : Str → Option Value} {acc : List (Key × D)} : Mono (dicR K mg acc) := fun W W' u le ⟨av, e, r⟩ => ⟨av, e, r.le le⟩
section
variable {K : PySem.W.Frag} {mg : Str → Option Value} {b : Bool} {mi : M (List D)} {vs : List Nat} {g : TG} {asg : D → S → Option S} {c : M Bool} {kx vx : M D}
theorem t_dc (hf : TGx b K mg [] g asg) (hw : TGw vs g) {σ : L2.St} {H : Hp} {Q : VK} (h : tO K mg (dcM mi vs asg c kx vx) σ H Q) : tDc (tI b K mg mi) g (tB K mg c) (tD K mg kx) (tD K mg vx) vs σ H Q := by
  obtain ⟨sd, W, o, sd', st, em, q⟩ := h
  simp only [dcM, Option.bind_eq_some_iff] at em
  obtain ⟨⟨ds, s1⟩, e1, em⟩ := em
  dsimp only at em
  split at em
  case isFalse => cases em
  rename_i no
  simp only [Option.map_eq_some_iff] at em
  obtain ⟨r, e2, em⟩ := em
  cases em
  refine ⟨sd, W, ds, s1, st, e1, fun J H1 W1 st1 k1 io Dl hD => ?_⟩
  let Nx (i : Nat) (H' : Hp) : Prop := ∃ s' W' acc, Fil K mg (dicR K mg acc) Dl (wipeS vs s1) (L2.wipe σ vs) H1 W1 s' (L2.wipe σ vs) H' W' ∧ dcL vs asg c kx vx (ds.drop i) acc s' = some r
  refine ⟨fun i m H' => Nx i H' ∧ m + i = ds.length, ⟨ds.length, ⟨wipeS vs s1, W1, [], ?_, e2⟩, rfl⟩, ?_⟩
  · obtain ⟨z1, z2⟩ := (st1.wipe (vs := vs)).newO hD (.dK [])
    exact ⟨z1, z2, st1.free hD, fun z => st1.notOwn hD z.wipe, _, upd_same, [], rfl, .nil⟩
  rintro i m H' ⟨⟨s', W', acc, f, em⟩, hm⟩
  have lW : Le W1 W' := f.kp.le
  by_cases hi : i < ds.length
  · refine .inr ⟨io.go i H' (lW.trans f.st.le) hi, Nx (i + 1), fun H2 n => ⟨m - 1, by omega, n, by omega⟩, ?_⟩
    intro x H2 y
    rw [List.drop_eq_getElem_cons hi] at em
    simp only [dcL, Option.bind_eq_some_iff] at em
    obtain ⟨s2, a1, ⟨k, s3⟩, a2, em⟩ := em
    have ww : L2.wipe (L2.wipe σ vs) vs = L2.wipe σ vs := wipe_wipe
    have key := hw x (L2.wipe σ vs) H2 (fun σ2 H3 => tB K mg c σ2 H3 fun kb H4 => if kb = true then tD K mg kx σ2 H4 fun y H5 => tD K mg vx σ2 H5 fun z H6 => ∃ kvs k, y = kV k ∧ H6 Dl = some (.dK kvs) ∧ kvs.length < sizeLine ∧ Nx (i + 1) (upd H6 Dl (.dK (putK kvs k z))) else Nx (i + 1) H4)
      (f.item dicR_mono io lW y (List.getElem?_eq_getElem hi) hf a1 fun σ2 H3 W3 _ f2 _ hz => ?_)
    · rw [ww] at key; exact key
    rw [ww] at hz
    refine ⟨s2, W3, k, s3, f2.st, a2, fun H4 W4 st4 k4 => ?_⟩
    have f4 := f2.step dicR_mono st4 k4
    cases k with
    | false => exact iteF ⟨wipeS vs s3, W4, acc, f4.wiped hz, em⟩
    | true =>
      refine iteT ?_
      simp only [Option.bind_eq_some_iff] at em
      obtain ⟨⟨y5, s5⟩, a3, ⟨z6, s6⟩, a4, kk, a5, em⟩ := em
      split at em
      case isFalse => cases em
      rename_i hsz
      refine ⟨s3, W4, y5, s5, f4.st, a3, fun v H5 W5 st5 k5 r5 => ?_⟩
      have f5 := f4.step dicR_mono st5 k5
      refine ⟨s5, W5, z6, s6, f5.st, a4, fun v6 H6 W6 st6 k6 r6 => ?_⟩
      have f6 := f5.step dicR_mono st6 k6
      obtain ⟨u, hu, av, rfl, ra⟩ := f6.ob
      exact ⟨av, kk, keyD_v r5 a5, hu, by rw [ra.len]; exact hsz, wipeS vs s6, W6, _, (f6.put hD ⟨_, rfl, ra.put r6⟩).wiped hz, em⟩
  · rw [List.drop_eq_nil_of_le (by omega)] at em
    cases em
    refine .inl ⟨io.stop i H' (lW.trans f.st.le) (by omega), ?_⟩
    obtain ⟨u, hu, av, rfl, ra⟩ := f.ob
    obtain ⟨z1, z2⟩ := f.st.rest st1 f.kp.le no
    exact q Dl H' W' z1 (k1.trans ⟨f.kp.le, fun a o h q => f.kp.keep a o h fun z => q z.wipe, fun a h h' q => f.kp.new a h h' fun z => q z.wipe, fun a h => (f.kp.own a (z2 a h)).imp (fun z => z.wipe) id, f.kp.there⟩) ⟨f.w, av, hu, ra⟩ (fun z => f.no (z2 _ z)) (k1.fresh hD)
end
section
variable {X : Cx} {b : Bool} {kx vx tg it a e : Expr} {ifs : List Expr} {scope : Scope} {own : List (Str × Nat)} {vs : List Nat} {pos p : Pos} {g : TG} {asg : D → S → Option S} {mi : M (List D)} {c : M Bool} {mk mv ma mb : M D}
theorem o_dc (hvs : own.map (fun x => x.2) = vs) (hc : X.calm = true) (hN : X.N.Nodup) (hi : IW b X tg it mi) (ok : BlkOk X.N X.env.scope scope own) (hg : Blks X scope fun Y => PG Y tg g) (hf : TGx b X.K X.mg [] g asg) (hw : TGw vs g) (ht : Blks X scope fun Y => PTs Y ifs (tB X.K X.mg c))
    (hk : Blks X scope fun Y => PE Y kx (tD X.K X.mg mk)) (he : Blks X scope fun Y => PE Y vx (tD X.K X.mg mv)) (hs : ∀ x, foldedSetIterable it X.env x = pure x := by intro _; rfl) :
    OE X (.DictComp kx vx [⟨tg, it, ifs, 0⟩] scope pos) (dcM mi vs asg c mk mv) := by
  subst hvs
  exact PE.imp (pe_dc hc hN hi ok hg ht hk he hs) fun σ H Q h => t_dc hf hw h
/-- d[k], it is there -/
def dixD : D → D → Option D
  | .dic kvs, k => (keyD k).bind (valP kvs)
  | _, _ => none
theorem e_dix (hu : X.A.units + 1 < cLine) (ha : DE X a ma) (hb : DE X e mb) (hs : NoSl e := by exact fun _ _ => rfl) : DE X (.Subscript a e pos) (mBin dixD ma mb) := PE.imp (pe_dget hu ha hb hs) fun σ H Q ⟨sd, W, d, sd', st, em, q⟩ => by
  obtain ⟨x, s1, e1, em⟩ := bindM_some em
  obtain ⟨y, s2, e2, em⟩ := bindM_some em
  obtain ⟨e3, rfl⟩ := optM_some em
  refine ⟨sd, W, x, s1, st, e1, fun v H1 W1 st1 k1 r1 => ⟨s1, W1, y, sd', st1, e2, fun u H2 W2 st2 k2 r2 => ?_⟩⟩
  unfold dixD at e3
  split at e3
  · simp only [Option.bind_eq_some_iff] at e3
    obtain ⟨k, h1, h2⟩ := e3
    have hk := keyD_v r2 h1
    subst hk
    cases r1 with
    | @dic ad gs _ hw rg =>
      have g := st2.le _ _ (k2.le _ _ hw)
      rcases (rg.le k2.le).val (k := k) with ⟨v1, d1, z1, z2, r⟩ | ⟨_, z⟩
      · rw [h2] at z2; cases z2
        refine ⟨ad, v1, rfl, ?_, q _ H2 W2 st2 (k1.trans k2) r⟩
        rw [← z1]; exact DGet.k g
      · rw [h2] at z; cases z
  · cases e3
end
end Fli
set_option Elab.async false
set_option linter.all false
set_option maxRecDepth 100000
set_option maxHeartbeats 4000000
namespace Fli
open PySem PySem.Spec PyProof.Rows L2
variable [HW]

/-! plain defs called by keywords alone -/
def pickA (idx : List Nat) {α : Type} (ws : List α) : List α := idx.filterMap fun i => ws[i]?
theorem pick_vals {zs : List V} {ws : List Value} (r : Vals zs ws) : ∀ idx : List Nat, Vals (pickA idx zs) (pickA idx ws)
  | [] => .nil
  | i :: idx => by
    have ih := pick_vals r idx
    unfold pickA at ih ⊢
    rw [List.filterMap_cons, List.filterMap_cons]
    cases e : zs[i]? with
    | some v =>
      obtain ⟨u, hu, ru⟩ := r.get e
      rw [hu]; exact .cons ru ih
    | none =>
      have l := List.getElem?_eq_none_iff.mp e
      rw [List.getElem?_eq_none_iff.mpr (by rw [← r.length]; exact l)]; exact ih
theorem pick_drs {K : PySem.W.Frag} {mg : Str → Option Value} {W : Hp} {zs : List V} {ws : List D} (r : DRs K mg W zs ws) : ∀ idx : List Nat, DRs K mg W (pickA idx zs) (pickA idx ws)
  | [] => .nil
  | i :: idx => by
    have ih := pick_drs r idx
    unfold pickA at ih ⊢
    rw [List.filterMap_cons, List.filterMap_cons]
    cases e : zs[i]? with
    | some v =>
      obtain ⟨u, hu, ru⟩ := r.get' e
      rw [hu]; exact .cons ru ih
    | none =>
      have l := List.getElem?_eq_none_iff.mp e
      rw [List.getElem?_eq_none_iff.mpr (by rw [← r.len]; exact l)]; exact ih
def DefKX (P : Program) (w : World) (K : PySem.W.Frag) (mg : Str → Option Value) (base : Heap) (k : Nat) (x : Str) (N ps ks : List Str) (idx : List Nat) (body : MS) : Prop :=
  ∃ f fd, FnOk P w K mg base CX0 k f fd ps (spM K mg N ps [] body) ∧ mg x = some (.ref f) ∧ PySem.W.keepIn K (.ref f) = true ∧ L2.KBn K fd ps 0 ks (fun _ ws => pickA idx ws) (fun _ zs => pickA idx zs)
theorem FunX.defK {P : Program} {w : World} {K : PySem.W.Frag} {mg : Str → Option Value} {base : Heap} {x : Str} {st : Stmt} {k : Nat} {N ps ks : List Str} {idx : List Nat} {body : MS} (F : FunX K mg x st) (ok : ∀ {f fd}, Fun K x x st f fd → FnOk P w K mg base CX0 k f fd ps (spM K mg N ps [] body))
    (b : ∀ (kV doc pm : Value) (an : Option Addr) (cdv ct : Value) (ws : List Value), ws.length = ks.length → bindArgs (PySem.W.fnOf x x (defArgs st) (defBody st) (defScope st) .none kV doc pm an cdv ct) ⟨[], ks.zip ws⟩ = pure (ps.zip (pickA idx ws))) : DefKX P w K mg base k x N ps ks idx body := by
  obtain ⟨f, fd, F, hm⟩ := F
  have F0 := F
  obtain ⟨oc, od, kV, doc, pm, an, cdv, ct, osl, rfl, lk, hcd⟩ := F.ex
  refine ⟨f, _, ok F0, hm, F0.kp, ⟨fun s us ws _ h1 h2 => ?_, fun _ rz => pick_vals rz idx⟩⟩
  cases us with
  | nil => exact .of_eq (b kV doc pm an cdv ct ws h2)
  | cons _ _ => cases h1
section
variable {X : Cx} {k n : Nat} {N ps ks : List Str} {idx : List Nat} {body : MS} {x : Str} {p po : Pos} {kws : List Keyword} {ms : M (List D)}
theorem pe_kw0 {f : Addr} {fd : FuncData} {sp : Sp} {E : XK} {CX : CXT} {tk : TA} (F : FnOk X.prog X.w X.K X.mg X.base CX k f fd ps sp) (hr : Room k X.A) (hg : Gl X x) (hm : X.mg x = some (.ref f)) (hk : PySem.W.keepIn X.K (.ref f) = true) (hb : L2.KBn X.K fd ps 0 ks (fun _ ws => pickA idx ws) (fun _ zs => pickA idx zs)) (hx : Passes CX X E) (hw : PK X kws tk)
    (hall : (backToKw po (keywordEach kws X.env)).all (·.1.isSome) = true := by rfl) (hks : (backToKw po (keywordEach kws X.env)).filterMap (·.1) = ks := by rfl) (hdb : (x == ("__debug__" : Str)) = false := by decide)
    (hpl : ((backTo po (starEach [] X.env)).any (·.1) || (backToKw po (keywordEach kws X.env)).any (·.1.isNone)) = false := by rfl) :
    PE X (.Call (.Name x p) [] kws po) (fun σ H Q => tk σ H fun zs H2 => zs.length = ks.length ∧ sp (pickA idx zs) H2 Q E) := by
  constructor
  intro pins s σ H Q I h
  refine wpAny_Call_Name_kw (ld_glob I hg hm (PySem.W.callWith_KW0 (h₀ := X.base) I.ok.mod.kin hk hall (thn (hw.run po pins s σ H _ I h) ?_) hpl) hdb)
  rintro ws s2 ⟨zs, H2, I2, rz, l, q⟩
  rw [hks]
  exact ⟨I2.kIn, run_fnN (us := []) (vs := []) F hr hb hx I2 .nil rz rfl l q⟩
theorem e_kwX (d : DefKX X.prog X.w X.K X.mg X.base k x N ps ks idx body) (hr : Room k X.A) (hg : Gl X x) (hn : N.length = n) (hs : LK X kws ms) (hl : LenIs ms ks.length) (hj : ∀ xs : List D, xs.length = ks.length → (pickA idx xs).length = ps.length)
    (hall : (backToKw po (keywordEach kws X.env)).all (·.1.isSome) = true := by rfl) (hks : (backToKw po (keywordEach kws X.env)).filterMap (·.1) = ks := by rfl) (hdb : (x == ("__debug__" : Str)) = false := by decide)
    (hpl : ((backTo po (starEach [] X.env)).any (·.1) || (backToKw po (keywordEach kws X.env)).any (·.1.isNone)) = false := by rfl) :
    DE X (.Call (.Name x p) [] kws po) (bindM ms fun ds => optM (ownM n body (pickA idx ds))) := by
  obtain ⟨f, fd, F, hm, hk, hb⟩ := d
  refine PE.imp (pe_kw0 (E := E0) F hr hg hm hk hb pass0 hs hall hks hdb hpl) fun σ H Q ⟨sd, W, o, sd', st, em, q⟩ => ?_
  obtain ⟨ds, s1, e1, em⟩ := bindM_some em
  obtain ⟨e2, rfl⟩ := optM_some em
  refine ⟨sd, W, ds, sd', st, e1, fun vs H1 W1 st1 k1 r1 => ⟨by rw [r1.len]; exact hl _ _ _ e1, ?_⟩⟩
  exact t_own hn (hj _ (hl _ _ _ e1)) st1 (pick_drs r1 idx) e2 fun v H2 W2 st2 k2 r2 => q v H2 W2 st2 (k1.trans k2) r2
end
/-! a classmethod, by what the top has left -/
def CmF (K : PySem.W.Frag) (C : Addr) (m q : Str) (st : Stmt) : Prop := ∃ mc p f fd, ClX.CRead K C mc ∧ ClX.CMet K C mc m p f ∧ Fun K m q st f fd
theorem cmF_mk {K : PySem.W.Frag} {m q : Str} {st : Stmt} {C p f : Addr} {rest : List Value} {oc : Value} {od an : Option Addr} {osl : Array (Option Value)} {kV doc pm cdv ct : Value} (rd : PySem.W.readsIn K C (.type "type") = true) (ga : PySem.W.specialIn K (.ref C) "__getattribute__" = some (some (.builtin "type.__getattribute__")))
    (a : PySem.W.findCls K (.ref C) (.type "type") m = some (.get (.builtin "classmethod.__get__") (.ref p) .none (.ref C))) (rc : PySem.W.recIn K p "classmethod" = some (.ref f :: rest)) (i : PySem.W.fnIn K f = true)
    (l : K.lookup f = some ⟨oc, od, .func (PySem.W.fnOf m q (defArgs st) (defBody st) (defScope st) .none kV doc pm an cdv ct), osl⟩) (cd : PySem.W.codeIn K cdv q = true) (k : PySem.W.keepIn K (.ref f) = true) : CmF K C m q st :=
  ⟨.type "type", p, f, _, ⟨rd, ga⟩, ⟨a, ⟨rest, rc⟩, i⟩, fun_mk l cd k⟩
theorem CmF.cmX {P : Program} {w : World} {K : PySem.W.Frag} {mg : Str → Option Value} {base : Heap} {c m q : Str} {C : Addr} {st : Stmt} {k : Nat} {N ps : List Str} {body : MS} (F : CmF K C m q st) (hm : mg c = some (.ref C)) (ok : ∀ {f fd}, Fun K m q st f fd → FnOk P w K mg base CX0 k f fd ps (spM K mg N ps [] body)) (b : BindsLike m q st ps) : CmX P w K mg base k c m N ps body := by
  obtain ⟨mc, p, f, fd, r, cm, F⟩ := F
  exact ⟨C, mc, p, f, fd, hm, r, cm, ok F, F.binds b⟩
/-! targets of any shape keep to their slots -/
def TGm (vs : List Nat) (g : TG) : Prop := ∀ (x : V) (σ : L2.St) (H : Hp) (Q Q' : L2.St → Hp → Prop), (∀ σ2 H2, L2.wipe σ2 vs = L2.wipe σ vs → Q σ2 H2 → Q' σ2 H2) → g x σ H Q → g x σ H Q'
def TGsm (vs : List Nat) (g : TGs) : Prop := ∀ (x : List V) (σ : L2.St) (H : Hp) (Q Q' : L2.St → Hp → Prop), (∀ σ2 H2, L2.wipe σ2 vs = L2.wipe σ vs → Q σ2 H2 → Q' σ2 H2) → g x σ H Q → g x σ H Q'
theorem TGm.w {vs : List Nat} {g : TG} (h : TGm vs g) : TGw vs g := fun x σ H Q q => h x σ H _ _ (fun _ _ e q => ⟨e, q e⟩) q
theorem tm_name {vs : List Nat} {i : Nat} (h : i ∈ vs) : TGm vs (gName i) := fun x σ H Q Q' f q => f _ _ (wipe_set h) q
theorem tm_nil {vs : List Nat} : TGsm vs gNil := fun x σ H Q Q' f q => ⟨q.1, f _ _ rfl q.2⟩
theorem tm_cons {vs : List Nat} {g : TG} {gs : TGs} (h : TGm vs g) (hs : TGsm vs gs) : TGsm vs (gCons g gs) := fun x σ H Q Q' f ⟨v, r, e, z⟩ => ⟨v, r, e, h v σ H _ _ (fun σ1 H1 e1 q => hs r σ1 H1 _ _ (fun σ2 H2 e2 q => f σ2 H2 (e2.trans e1) q) q) z⟩
theorem tm_tup {K : PySem.W.Frag} {vs : List Nat} {n : Nat} {gs : TGs} (h : TGsm vs gs) : TGm vs (gTup K n gs) := fun x σ H Q Q' f ⟨a, xs, e, hq, hl, z⟩ => ⟨a, xs, e, hq, hl, h xs σ H _ _ f z⟩
end Fli
namespace Fli
open PySem PySem.Spec PyProof.Rows L2
variable [HW]
/-! a classmethod called by keywords alone -/
def CmKX (P : Program) (w : World) (K : PySem.W.Frag) (mg : Str → Option Value) (base : Heap) (k : Nat) (c m : Str) (N ps ks : List Str) (idx : List Nat) (body : MS) : Prop :=
  ∃ C mc p f fd, mg c = some (.ref C) ∧ ClX.CRead K C mc ∧ ClX.CMet K C mc m p f ∧ FnOk P w K mg base CX0 k f fd ps (spM K mg N ps [] body) ∧ L2.KBn K fd ps 1 ks (fun us ws => us ++ pickA idx ws) (fun vs zs => vs ++ pickA idx zs)
theorem CmF.cmKX {P : Program} {w : World} {K : PySem.W.Frag} {mg : Str → Option Value} {base : Heap} {c m q : Str} {C : Addr} {st : Stmt} {k : Nat} {N ps ks : List Str} {idx : List Nat} {body : MS} (F : CmF K C m q st) (hm : mg c = some (.ref C)) (ok : ∀ {f fd}, Fun K m q st f fd → FnOk P w K mg base CX0 k f fd ps (spM K mg N ps [] body))
    (b : ∀ (kV doc pm : Value) (an : Option Addr) (cdv ct self : Value) (ws : List Value), ws.length = ks.length → bindArgs (PySem.W.fnOf m q (defArgs st) (defBody st) (defScope st) .none kV doc pm an cdv ct) ⟨[self], ks.zip ws⟩ = pure (ps.zip (self :: pickA idx ws))) : CmKX P w K mg base k c m N ps ks idx body := by
  obtain ⟨mc, p, f, fd, r, cm, F⟩ := F
  have F0 := F
  obtain ⟨oc, od, kV, doc, pm, an, cdv, ct, osl, rfl, lk, hcd⟩ := F.ex
  refine ⟨C, mc, p, f, _, hm, r, cm, ok F0, ⟨fun s us ws _ h1 h2 => ?_, fun rv rz => rv.append (pick_vals rz idx)⟩⟩
  match us, h1 with
  | [self], _ => exact .of_eq (b kV doc pm an cdv ct self ws h2)
section
variable {X : Cx} {k n : Nat} {N ps ks : List Str} {idx : List Nat} {body : MS} {c nm : Str} {p2 apos po : Pos} {kws : List Keyword} {ms : M (List D)} {pl : Sem Bool}
theorem pe_cmK {C f p : Addr} {mc : Value} {fd : FuncData} {sp : Sp} {E : XK} {CX : CXT} {tk : TA} (r : ClX.CRead X.K C mc) (cm : ClX.CMet X.K C mc nm p f) (F : FnOk X.prog X.w X.K X.mg X.base CX k f fd ps sp) (hr : Room k X.A) (hg : Gl X c) (hm : X.mg c = some (.ref C)) (hb : L2.KBn X.K fd ps 1 ks (fun us ws => us ++ pickA idx ws) (fun vs zs => vs ++ pickA idx zs)) (hx : Passes CX X E) (hw : PK X kws tk)
    (hall : (backToKw po (keywordEach kws X.env)).all (·.1.isSome) = true := by rfl) (hks : (backToKw po (keywordEach kws X.env)).filterMap (·.1) = ks := by rfl) (hd : (c == ("__debug__" : Str)) = false := by decide)
    (hpl : ((backTo po (starEach [] X.env)).any (·.1) || (backToKw po (keywordEach kws X.env)).any (·.1.isNone)) = false := by rfl)
    (ht : eval (.Call (.Attribute (.Name c p2) nm apos) [] kws po) X.env = (do
              let ov ← eval (.Name c p2) X.env
              standAt apos.atName
              let (f, first) ← holding [ov] (getMethod ov nm pl)
              callWith po f first (backTo po (starEach [] X.env)) (backToKw po (keywordEach kws X.env))) := by rfl) :
    PE X (.Call (.Attribute (.Name c p2) nm apos) [] kws po) (fun σ H Q => tk σ H fun zs H2 => zs.length = ks.length ∧ sp (V.ref C :: pickA idx zs) H2 Q E) := by
  constructor
  intro pins s σ H Q I h
  refine PySem.W.methodCall_KW (pl := pl) (ld_glob I hg hm ?_ hd) ht
  refine ClX.getmethcm_ok I r cm fun s2 I2 => ?_
  refine PySem.W.callWith_of hpl (PySem.W.keeps_M (K := X.K) (self := .ref C) cm.fi) (evalArgs_kw2_nil hall (thn (hw.run po _ s2 σ H _ I2 h) ?_))
  rintro ws s3 ⟨zs, H2, I3, rz, l, q⟩
  rw [hks]
  refine ⟨⟨ClX.pin_at I3, I3.kIn⟩, ?_⟩
  have lw : ws.length = ks.length := rz.length.symm.trans l
  have body := F.run X.A X.stack s3 H2 ⟨[Value.ref C], ks.zip ws⟩ (Value.ref C :: pickA idx ws) (V.ref C :: pickA idx zs) Q E hr I3.env0 (hb.to s3 [Value.ref C] ws I3.kIn rfl lw) (.cons rfl (pick_vals rz idx)) q
  have z : wpAny (model X.prog X.w) X.A (call (.ref s.heap.objs.size) [] (ks.zip ws)) (EP X ((s.heap.objs.size, PySem.W.methodObj (.ref f) (.ref C)) :: pins) σ Q) X.xe s3 := by
    refine wpAny_call (PySem.W.method_call (ClX.pin_at I3) (codeAny_mono body ?_))
    intro out s4 hq
    match out, hq with
    | .error e, hq => exact hx _ σ H2 s3 e s4 I3 hq
    | .ok (.ret u), hq => exact I3.after hq
    | .ok .next, hq => exact hq.elim
    | .ok .brk, hq => exact hq.elim
    | .ok .cont, hq => exact hq.elim
  exact thn z fun _ _ y => ClX.unpinE y
theorem e_cmKX (d : CmKX X.prog X.w X.K X.mg X.base k c nm N ps ks idx body) (hr : Room k X.A) (hg : Gl X c) (hn : N.length = n) (hs : LK X kws ms) (hl : LenIs ms ks.length) (hj : ∀ xs : List D, xs.length = ks.length → (pickA idx xs).length + 1 = ps.length)
    (hall : (backToKw po (keywordEach kws X.env)).all (·.1.isSome) = true := by rfl) (hks : (backToKw po (keywordEach kws X.env)).filterMap (·.1) = ks := by rfl) (hd : (c == ("__debug__" : Str)) = false := by decide)
    (hpl : ((backTo po (starEach [] X.env)).any (·.1) || (backToKw po (keywordEach kws X.env)).any (·.1.isNone)) = false := by rfl)
    (ht : eval (.Call (.Attribute (.Name c p2) nm apos) [] kws po) X.env = (do
              let ov ← eval (.Name c p2) X.env
              standAt apos.atName
              let (f, first) ← holding [ov] (getMethod ov nm pl)
              callWith po f first (backTo po (starEach [] X.env)) (backToKw po (keywordEach kws X.env))) := by rfl) :
    DE X (.Call (.Attribute (.Name c p2) nm apos) [] kws po) (bindM ms fun ds => optM (ownM n body (.cls c :: pickA idx ds))) := by
  obtain ⟨C, mc, p, f, fd, hm, r, cm, F, hb⟩ := d
  refine PE.imp (pe_cmK (E := E0) r cm F hr hg hm hb pass0 hs hall hks hd hpl ht) fun σ H Q ⟨sd, W, o, sd', st, em, q⟩ => ?_
  obtain ⟨ds, s1, e1, em⟩ := bindM_some em
  obtain ⟨e2, rfl⟩ := optM_some em
  refine ⟨sd, W, ds, sd', st, e1, fun vs H1 W1 st1 k1 r1 => ⟨by rw [r1.len]; exact hl _ _ _ e1, ?_⟩⟩
  exact t_own hn (show (D.cls c :: pickA idx ds).length = ps.length from hj _ (hl _ _ _ e1)) st1 (.cons (.cls hm) (pick_drs r1 idx)) e2 fun v H2 W2 st2 k2 r2 => q v H2 W2 st2 (k1.trans k2) r2
end
end Fli
set_option Elab.async false
set_option linter.all false
set_option maxRecDepth 100000
set_option maxHeartbeats 4000000
namespace Fli
open PySem PySem.Spec PyProof.Rows L2
variable [HW]

def PwX (X : Cx) : Prop := X.prog = HW.P ∧ X.w = HW.w
/-! keys that are tuples -/
def keysD : List D → Option (List Key)
  | [] => some []
  | d :: ds => (keyD d).bind fun k => (keysD ds).map (k :: ·)
def keyT : D → Option (List Key)
  | .tup ds => keysD ds
  | _ => none
abbrev Ent := List Key × Addr × V
def valX (gs : List Ent) (k : List Key) : Option V := (gs.find? fun q => decide (q.1 = k)).map (·.2.2)
def putX (gs : List Ent) (k : List Key) (b : Addr) (v : V) : List Ent := if (gs.any fun q => decide (q.1 = k)) = true then gs.map fun q => if q.1 = k then (q.1, q.2.1, v) else q else gs ++ [(k, b, v)]
theorem len_putX (gs : List Ent) (k : List Key) (b : Addr) (v : V) : (putX gs k b v).length ≤ gs.length + 1 := by
  unfold putX
  split <;> simp
section
variable {K : PySem.W.Frag} {mg : Str → Option Value} {W : Hp}
theorem keysD_v : ∀ {vs : List V} {ds : List D} {ks : List Key}, DRs K mg W vs ds → keysD ds = some ks → vs = ks.map kV
  | _, _, _, .nil, h => by cases h; rfl
  | _, _, _, .cons r rs, h => by
    simp only [keysD, Option.bind_eq_some_iff, Option.map_eq_some_iff] at h
    obtain ⟨k, h1, ks, h2, rfl⟩ := h
    rw [keyD_v r h1, keysD_v rs h2]; rfl
theorem keyT_v {v : V} {d : D} {k : List Key} (r : DR K mg W v d) (h : keyT d = some k) : ∃ b, v = .ref b ∧ SqF K W b (k.map kV) := by
  cases r with
  | tup s r => exact ⟨_, rfl, by rw [← keysD_v r h]; exact s⟩
  | _ => cases h
theorem DTs.len : ∀ {gs : List Ent} {kvs : List (List Key × D)}, DTs K mg W gs kvs → gs.length = kvs.length
  | _, _, .nil => rfl
  | _, _, .cons _ _ r => by simp [DTs.len r]
theorem DTs.keys : ∀ {gs : List Ent} {kvs : List (List Key × D)}, DTs K mg W gs kvs → ∀ p ∈ gs, SqF K W p.2.1 (p.1.map kV)
  | _, _, .nil, p, h => nomatch h
  | _, _, .cons s _ r, p, h => by
    rcases List.mem_cons.mp h with e | h
    · subst e; exact s
    · exact DTs.keys r p h
theorem DTs.any {k : List Key} : ∀ {gs : List Ent} {kvs : List (List Key × D)}, DTs K mg W gs kvs → (gs.any fun q => decide (q.1 = k)) = kvs.any fun q => decide (q.1 = k)
  | _, _, .nil => rfl
  | _, _, .cons _ _ r => by simp [DTs.any r]
theorem DTs.val {k : List Key} : ∀ {gs : List Ent} {kvs : List (List Key × D)}, DTs K mg W gs kvs → (∃ v d, valX gs k = some v ∧ valP kvs k = some d ∧ DR K mg W v d) ∨ (valX gs k = none ∧ valP kvs k = none)
  | _, _, .nil => .inr ⟨rfl, rfl⟩
  | _, _, @DTs.cons _ _ _ _ n b v gs d fs s h r => by
    by_cases e : n = k
    · exact .inl ⟨v, d, by unfold valX; simp [e], by unfold valP; simp [e], h⟩
    · have e1 : valX ((n, b, v) :: gs) k = valX gs k := by unfold valX; simp [e]
      have e2 : valP ((n, d) :: fs) k = valP fs k := by unfold valP; simp [e]
      rw [e1, e2]; exact DTs.val r
theorem DTs.mapP {k : List Key} {v : V} {d : D} (h : DR K mg W v d) : ∀ {gs : List Ent} {kvs : List (List Key × D)}, DTs K mg W gs kvs → DTs K mg W (gs.map fun q => if q.1 = k then (q.1, q.2.1, v) else q) (kvs.map fun q => if q.1 = k then (q.1, d) else q)
  | _, _, .nil => .nil
  | _, _, @DTs.cons _ _ _ _ n b w gs e fs s g r => by
    by_cases z : n = k
    · simp only [List.map_cons, if_pos z]; exact .cons s h (DTs.mapP h r)
    · simp only [List.map_cons, if_neg z]; exact .cons s g (DTs.mapP h r)
theorem DTs.app : ∀ {gs hs : List Ent} {kvs ls : List (List Key × D)}, DTs K mg W gs kvs → DTs K mg W hs ls → DTs K mg W (gs ++ hs) (kvs ++ ls)
  | _, _, _, _, .nil, s => s
  | _, _, _, _, .cons s h r, t => .cons s h (DTs.app r t)
theorem DTs.put {k : List Key} {b : Addr} {v : V} {d : D} {gs : List Ent} {kvs : List (List Key × D)} (r : DTs K mg W gs kvs) (s : SqF K W b (k.map kV)) (h : DR K mg W v d) : DTs K mg W (putX gs k b v) (putP kvs k d) := by
  unfold putX putP
  rw [r.any]
  split
  · exact DTs.mapP h r
  · exact r.app (.cons s h .nil)
end
/-! entries, as they stand in memory -/
abbrev XR : List Ent → List (List Key × Addr × Value) → Prop := Paired fun (p : List Key × Addr × V) (q : List Key × Addr × Value) => p.1 = q.1 ∧ p.2.1 = q.2.1 ∧ RelV p.2.2 q.2.2
theorem XR.val {gs : List Ent} {zs : List (List Key × Addr × Value)} (r : XR gs zs) (k : List Key) : RelO (valX gs k) ((atKey zs k).map (·.2)) := by
  induction r with
  | nil => exact True.intro
  | @cons p q ps qs h t ih =>
    obtain ⟨p1, p2, p3⟩ := p
    obtain ⟨q1, q2, q3⟩ := q
    obtain ⟨h1, h2, h3⟩ := h
    simp only at h1 h2 h3
    subst h1 h2
    by_cases e : p1 = k
    · have a : valX ((p1, p2, p3) :: ps) k = some p3 := by unfold valX; simp [e]
      have b : atKey ((p1, p2, q3) :: qs) k = some (p2, q3) := by unfold atKey; simp [e]
      rw [a, b]; exact h3
    · have a : valX ((p1, p2, p3) :: ps) k = valX ps k := by unfold valX; simp [e]
      have b : atKey ((p1, p2, q3) :: qs) k = atKey qs k := by unfold atKey; simp [e]
      rw [a, b]; exact ih
theorem valX_any : ∀ {gs : List Ent} {k : List Key}, (gs.any fun q => decide (q.1 = k)) = (valX gs k).isSome
  | [], _ => rfl
  | p :: ps, k => by
    by_cases e : p.1 = k
    · unfold valX; simp [e]
    · have ih := valX_any (gs := ps) (k := k)
      unfold valX at ih ⊢
      simp only [List.any_cons, List.find?_cons, e, decide_false, Bool.false_or]
      exact ih
theorem XR.repl {gs : List Ent} {zs : List (List Key × Addr × Value)} (r : XR gs zs) (k : List Key) {y : V} {u : Value} (ry : RelV y u) : XR (gs.map fun q => if q.1 = k then (q.1, q.2.1, y) else q) (zs.map (putAt k u)) := by
  induction r with
  | nil => exact .nil
  | @cons p q ps qs h t ih =>
    refine .cons ?_ ih
    unfold putAt
    dsimp only
    by_cases e : p.1 = k
    · rw [if_pos e, if_pos (h.1.symm.trans e)]; exact ⟨h.1, h.2.1, ry⟩
    · rw [if_neg e, if_neg fun z => e (h.1.trans z)]; exact h
theorem XR.put {gs : List Ent} {zs : List (List Key × Addr × Value)} (r : XR gs zs) (k : List Key) {b : Addr} {y : V} {u : Value} (ry : RelV y u) : XR (putX gs k b y) (storedH zs k b u) := by
  have e : (gs.any fun q => decide (q.1 = k)) = (atKey zs k).isSome := by
    rw [valX_any, (r.val k).isSome_eq, Option.isSome_map]
  unfold putX storedH
  rw [e]
  by_cases q : (atKey zs k).isSome = true
  · rw [if_pos q, if_pos q]; exact r.repl k ry
  · rw [if_neg q, if_neg q]; exact Paired.snoc r ⟨rfl, rfl, ry⟩
/-- keys that stand where they should -/
def KeysOk (K : PySem.W.Frag) (H : Hp) (gs : List Ent) : Prop := ∀ p ∈ gs, SqT K H p.2.1 (p.1.map kV)
section
variable {X : Cx} {pins : List (Addr × Obj)} {σ : L2.St} {H : Hp} {s : Shared} {a b : Addr} {gs : List Ent} {k : List Key} {v : V} {u : Value}
theorem keyIs (I : Inv X pins σ H s) (h : SqT X.K H b (k.map kV)) : (tupleKind (mixKind X.prog X.w)).is s.heap k b := by
  obtain ⟨its, r, ⟨o, h1, h2, n, h3⟩, _⟩ := I.tuple h
  exact ⟨o, its.toArray, n, h1, h2, h3, by simpa using items_are r⟩
theorem dx_at (pw : PwX X) (I : Inv X pins σ H s) (e : H a = some (DX a gs)) (hk : KeysOk X.K H gs) : gs.length ≤ sizeLine ∧ (a == sysModules) = false ∧ ∃ zs, XR gs zs ∧ s.heap.DictOfH (tupleKind (mixKind X.prog X.w)) a zs := by
  have e : H a = some (.ext (DXp X.prog X.w a gs)) := by rw [pw.1, pw.2]; exact e
  obtain ⟨⟨z, hd, zs, r, o, es, ep, h1, h2, h3, h4, h5⟩, _⟩ := I.hok a _ e
  refine ⟨z, hd, zs, r, o, es, ep, h1, h2, h3, h4, fun x hx => ?_, h5⟩
  have all : ∀ {l : List Ent} {m : List (List Key × Addr × Value)}, XR l m → (∀ p ∈ l, SqT X.K H p.2.1 (p.1.map kV)) → ∀ x ∈ m, (tupleKind (mixKind X.prog X.w)).is s.heap x.1 x.2.1 := by
    intro l m q
    induction q with
    | nil => intro _ x hx; exact nomatch hx
    | @cons p q ps qs hq t ih =>
      intro hl x hx
      rcases List.mem_cons.mp hx with e | hx
      · subst e
        rw [← hq.1, ← hq.2.1]
        exact keyIs I (hl p (by simp))
      · exact ih (fun p hp => hl p (by simp [hp])) x hx
  exact all r hk x hx
theorem dx_new {P : Program} {w : World} {H' : Hp} {h' : Heap} (h : DXp P w a gs h') : ObjOk P w H' h' a (.ext (DXp P w a gs)) := by
  refine ⟨h, ?_, fun h1 h2 p k => ?_⟩
  · obtain ⟨_, _, zs, _, o, es, ep, e, _⟩ := h
    exact ⟨o, e⟩
  · obtain ⟨a1, a2, zs, r, o, es, ep, e, q⟩ := p
    exact ⟨a1, a2, zs, r, o, es, ep, k o e, q⟩
theorem dx_write {h' : Heap} {t' : Nat} {zs : List (List Key × Addr × Value)} {ho : HO} (pw : PwX X) (I : Inv X pins σ H s) (mu : Mut (H a)) (_e : H a = some ho) (hd : (a == sysModules) = false) (l : gs.length ≤ sizeLine) (r : XR gs zs) (dd : h'.DictOfH (tupleKind (mixKind X.prog X.w)) a zs) (hs : Heap.SameBut a s.heap h') :
    Inv X pins σ (upd H a (DX a gs)) { s with heap := h', toks := t' } := by
  obtain ⟨o, es, ep, h1, h2, h3, h4, _, h5⟩ := dd
  have n : ObjOk X.prog X.w (upd H a (DX a gs)) h' a (DX a gs) := by
    unfold DX
    rw [← pw.1, ← pw.2]
    exact dx_new ⟨l, hd, zs, r, o, es, ep, h1, h2, h3, h4, h5⟩
  exact d_write I mu hs ⟨o, h1⟩ n
end
/-- what the dict at a holds at y; what stands behind a[y] = v -/
def XGet (K : PySem.W.Frag) (H : Hp) (a : Addr) (y : V) (o : Option V) : Prop := ∃ gs k b, H a = some (DX a gs) ∧ KeysOk K H gs ∧ y = .ref b ∧ SqT K H b (k.map kV) ∧ o = valX gs k
def XPut (K : PySem.W.Frag) (H : Hp) (a : Addr) (y v : V) (H' : Hp) : Prop := ∃ gs k b, H a = some (DX a gs) ∧ KeysOk K H gs ∧ y = .ref b ∧ SqT K H b (k.map kV) ∧ gs.length < sizeLine ∧ H' = upd H a (DX a (putX gs k b v))
section
variable {X : Cx} {pins : List (Addr × Obj)} {σ : L2.St} {H : Hp} {s : Shared} {a : Addr} {y v : V} {u r : Value} {o : Option V} {A : Around} {E : Value → Shared → Prop}
theorem x_getItem {Q : Value → Shared → Prop} (hu : A.units + 1 < cLine) (pw : PwX X) (I : Inv X pins σ H s) (g : XGet X.K H a y (some v)) (ry : RelV y u) (h : ∀ w' s', Inv X pins σ H s' → RelV v w' → Q w' s') :
    s.TypeIs (.ref a) "dict" ∧ wpAny (model X.prog X.w) A (getItem (.ref a) u) Q E s := by
  obtain ⟨gs, k, b, e, hk, rfl, eb, l⟩ := g
  cases (show u = Value.ref b from ry)
  obtain ⟨z, hd, zs, rel, dd⟩ := dx_at pw I e hk
  obtain ⟨w', hw, rw'⟩ := RelO.some_of (v := v) (o := (atKey zs k).map (·.2)) (by rw [l]; exact rel.val k)
  obtain ⟨p, hp, hp2⟩ := Option.map_eq_some_iff.mp hw
  refine ⟨dd.typeIs, wpAny_getItem_heap (tupleKind_room_in1 hu) (keyIs I eb) dd hp ?_⟩
  rw [hp2]
  exact h w' _ (I.tok _) rw'
theorem x_in {Q : Value → Shared → Prop} (hu : A.units + 1 < cLine) (pw : PwX X) (I : Inv X pins σ H s) (g : XGet X.K H a y o) (ry : RelV y u) (h : ∀ s', Inv X pins σ H s' → Q (.bool o.isSome) s') :
    wpAny (model X.prog X.w) A (compareOp .In u (.ref a)) Q E s := by
  obtain ⟨gs, k, b, e, hk, rfl, eb, l⟩ := g
  cases (show u = Value.ref b from ry)
  obtain ⟨z, hd, zs, rel, dd⟩ := dx_at pw I e hk
  have hq := (rel.val k).isSome_eq
  rw [Option.isSome_map] at hq
  refine wpAny_in_heap (tupleKind_room_in1 hu) (keyIs I eb) hd dd ?_
  rw [← hq, ← l]
  exact h _ (I.tok _)
theorem x_notIn {Q : Value → Shared → Prop} (hu : A.units + 1 < cLine) (pw : PwX X) (I : Inv X pins σ H s) (g : XGet X.K H a y o) (ry : RelV y u) (h : ∀ s', Inv X pins σ H s' → Q (.bool (!o.isSome)) s') :
    wpAny (model X.prog X.w) A (compareOp .NotIn u (.ref a)) Q E s := by
  obtain ⟨gs, k, b, e, hk, rfl, eb, l⟩ := g
  cases (show u = Value.ref b from ry)
  obtain ⟨z, hd, zs, rel, dd⟩ := dx_at pw I e hk
  have hq := (rel.val k).isSome_eq
  rw [Option.isSome_map] at hq
  refine wpAny_notIn_heap (tupleKind_room_in1 hu) (keyIs I eb) hd dd ?_
  rw [← hq, ← l]
  exact h _ (I.tok _)
theorem x_get1 {Q : Value → Shared → Prop} (hu : A.units + 1 < cLine) (pw : PwX X) (I : Inv X pins σ H s) (g : XGet X.K H a y o) (ry : RelV y u) (h : ∀ w' s', Inv X pins σ H s' → RelV (o.getD .non) w' → Q w' s') :
    wpAny (model X.prog X.w) A (call (.builtin "dict.get") [.ref a, u]) Q E s := by
  obtain ⟨gs, k, b, e, hk, rfl, eb, l⟩ := g
  cases (show u = Value.ref b from ry)
  obtain ⟨z, hd, zs, rel, dd⟩ := dx_at pw I e hk
  refine call_meetsIn PySem.F.slot_dict_get dd.typeIs PySem.F.entry_dict_get (PySem.F.args_dict_get_2 _ _) (meetsH_dict_get (tupleKind (mixKind X.prog X.w)) a b hd) ⟨tupleKind_room_in1 hu, k, zs, keyIs I eb, dd, h _ _ (I.tok _) ?_⟩
  rw [l]
  exact (rel.val k).getD rfl
theorem XPut.keys {H' : Hp} (g : XPut X.K H a y v H') : (∃ gs, H a = some (DX a gs)) := let ⟨gs, _, _, e, _⟩ := g; ⟨gs, e⟩
theorem x_setItem {H' : Hp} {Q : Unit → Shared → Prop} (hu : A.units + 1 < cLine) (pw : PwX X) (I : Inv X pins σ H s) (g : XPut X.K H a y v H') (ry : RelV y u) (rv : RelV v r) (h : ∀ s', Inv X pins σ H' s' → Q () s') :
    wpAny (model X.prog X.w) A (setItem (.ref a) u r) Q E s := by
  obtain ⟨gs, k, b, e, hk, rfl, eb, l, rfl⟩ := g
  cases (show u = Value.ref b from ry)
  obtain ⟨z, hd, zs, rel, dd⟩ := dx_at pw I e hk
  have hl : (putX gs k b v).length ≤ sizeLine := by have := len_putX gs k b v; omega
  exact wpAny_setItem_heap (hsz := by rw [← Paired.length rel]; exact z) (tupleKind_room_in1 hu) (keyIs I eb) dd fun h' dd' hs => h _ (dx_write pw I (by rw [e]; exact True.intro) e hd hl (rel.put k rv) dd' hs)
theorem x_dictSet {H' : Hp} {Q : Unit → Shared → Prop} (hu : X.A.units + 1 < cLine) (pw : PwX X) (I : Inv X pins σ H s) (g : XPut X.K H a y v H') (ry : RelV y u) (rv : RelV v r) (h : ∀ s', Inv X pins σ H' s' → Q () s') :
    wpAny (model X.prog X.w) X.A (dictSet a u r) Q E s := by
  obtain ⟨gs, k, b, e, hk, rfl, eb, l, rfl⟩ := g
  cases (show u = Value.ref b from ry)
  obtain ⟨z, hd, zs, rel, dd⟩ := dx_at pw I e hk
  have hl : (putX gs k b v).length ≤ sizeLine := by have := len_putX gs k b v; omega
  refine wpAny_dictSet_heap (hsz := by rw [← Paired.length rel]; exact z) (show X.A.units < cLine by omega) (keyIs I eb) dd fun h' dd' hs => h _ (dx_write pw I (by rw [e]; exact True.intro) e hd hl (rel.put k rv) dd' hs)
theorem dx_empty {P : Program} {w : World} (h : Heap) (hb : sysModules < h.objs.size) : DXp P w h.objs.size [] (h.push { cls := .type "dict", data := .dict #[] }) :=
  ⟨Nat.zero_le _, beq_eq_false_iff_ne.mpr (Ne.symm (Nat.ne_of_lt hb)), [], .nil, _, #[], 0, Heap.get?_push_size _ rfl, ⟨rfl, rfl, rfl⟩, rfl, rfl, List.nodup_nil⟩
theorem x_laid (pw : PwX X) (I : Inv X pins σ H s) : Inv X pins σ (upd H s.heap.objs.size (DX s.heap.objs.size [])) { s with heap := s.heap.push { cls := .type "dict", data := .dict #[] } } := by
  refine I.laid (t' := s.toks) (fun _ _ q => Heap.get?_push_of_some _ q) (Nat.le_refl _) ?_
  unfold DX
  rw [← pw.1, ← pw.2]
  exact dx_new (dx_empty s.heap I.big)
end
/-! rules of expressions -/
def tXGet (K : PySem.W.Frag) (td ty : TE) : TE := fun σ H Q => td σ H fun x H1 => ty σ H1 fun y H2 => ∃ a v, x = .ref a ∧ XGet K H2 a y (some v) ∧ Q v H2
def rXIn (K : PySem.W.Frag) : R2 := fun y x H Q => ∃ a o, x = .ref a ∧ XGet K H a y o ∧ Q (.bl o.isSome) H
def rXNin (K : PySem.W.Frag) : R2 := fun y x H Q => ∃ a o, x = .ref a ∧ XGet K H a y o ∧ Q (.bl (!o.isSome)) H
def sXPut (K : PySem.W.Frag) (td ty tv : TE) : TS := fun D σ H => tv σ H fun v H1 => td σ H1 fun x H2 => ty σ H2 fun y H3 => ∃ a H4, x = .ref a ∧ XPut K H3 a y v H4 ∧ D.nx σ H4
def tXGet1 (K : PySem.W.Frag) (td ty : TE) : TE := fun σ H Q => td σ H fun x H1 => ∃ a gs, x = .ref a ∧ H1 a = some (DX a gs) ∧ KeysOk K H1 gs ∧ ty σ H1 fun y H2 => ∃ o, XGet K H2 a y o ∧ Q (o.getD .non) H2
section
variable {X : Cx} {o i e value : Expr} {pos pos' tpos apos cpos : Pos} {td ty tv : TE}
theorem pe_xget (hu : X.A.units + 1 < cLine) (pw : PwX X) (ho : PE X o td) (hi : PE X i ty) (hs : NoSl i) : PE X (.Subscript o i pos) (tXGet X.K td ty) := by
  refine ⟨fun pins s σ H Q I h => ?_⟩
  refine subD_of PySem.F.slot_dict_getitem.lookup hs (thn (ho.run pins s σ H _ I h) fun u s1 ⟨x, H1, I1, rx, q1⟩ => thn (hi.run pins s1 σ H1 _ I1 q1) fun iv s2 ⟨y, H2, I2, ry, a, v, ex, g, q2⟩ => ?_)
  subst ex
  obtain rfl : u = Value.ref a := rx
  exact x_getItem hu pw I2 g ry fun w' s3 I3 rw' => ⟨v, H2, I3, rw', q2⟩
theorem op_xin (hu : X.A.units + 1 < cLine) (pw : PwX X) : OpR X (compareOp .In) (rXIn X.K) := by
  intro pins s σ H y x u v Q I ry rx h
  obtain ⟨a, ov, ex, g, q⟩ := h
  subst ex
  obtain rfl : v = Value.ref a := rx
  exact x_in hu pw I g ry fun s3 I3 => ⟨.bl ov.isSome, H, I3, rfl, q⟩
theorem op_xnin (hu : X.A.units + 1 < cLine) (pw : PwX X) : OpR X (compareOp .NotIn) (rXNin X.K) := by
  intro pins s σ H y x u v Q I ry rx h
  obtain ⟨a, ov, ex, g, q⟩ := h
  subst ex
  obtain rfl : v = Value.ref a := rx
  exact x_notIn hu pw I g ry fun s3 I3 => ⟨.bl (!ov.isSome), H, I3, rfl, q⟩
theorem ps_xput (hu : X.A.units + 1 < cLine) (pw : PwX X) (ho : PE X o td) (hi : PE X i ty) (hv : PE X value tv) (hs : swapsWith value (some (.Subscript o i pos')) pos.line X.env = pure false) :
    PS X (.Assign [.Subscript o i pos'] value pos) (sXPut X.K td ty tv) := by
  refine ⟨fun pins s σ H D I h => ?_⟩
  refine wpAny_Assign_Subscript (thn (hv.run pins s σ H _ I h) fun r s1 ⟨v, H1, I1, rv, q1⟩ => thn (ho.run pins s1 σ H1 _ I1 q1) fun u s2 ⟨x, H2, I2, rx, q2⟩ => thn (hi.run pins s2 σ H2 _ I2 q2) fun iv s3 ⟨y, H3, I3, ry, a, H4, ex, g, q3⟩ => ?_) hs
  subst ex
  obtain rfl : u = Value.ref a := rx
  exact x_setItem hu pw I3 g ry rv fun s4 I4 => ⟨σ, H4, I4, q3⟩
theorem pe_xget1 (hu : X.A.units + 1 < cLine) (pw : PwX X) (ho : PE X o td) (he : PE X e ty) (m : M1 X o "get" apos e cpos) : PE X (.Call (.Attribute o "get" apos) [e] [] cpos) (tXGet1 X.K td ty) := by
  refine ⟨fun pins s σ H Q I h => ?_⟩
  refine wpAny_Call_method m.base m.few m.line PySem.F.plainAttrs_dict PySem.F.slot_dict_get PySem.F.type_dict_get (thn (ho.run pins s σ H _ I h) fun u s1 ⟨x, H1, I1, rx, a, gs, ex, d, hk, q1⟩ => ?_)
  subst ex
  obtain rfl : u = Value.ref a := rx
  obtain ⟨_, hd, zs, rel, dd⟩ := dx_at pw I1 d hk
  have t1 := dd.typeIs
  obtain ⟨ob, _, _, g1, g2, _⟩ := dd
  refine ⟨t1, fun b q => by cases q; exact ⟨ob, g1, g2.2.1⟩, ?_⟩
  rw [m.trees]
  refine Calls.callWith_builtin rfl (Calls.evalArgs_plain (Calls.spliced_cons (thn (he.run pins s1 σ H1 _ I1 q1) fun iv s2 ⟨y, H2, I2, ry, ov, g, q2⟩ => Calls.spliced_nil ?_)))
  exact x_get1 hu pw I2 g ry fun w' s3 I3 rw' => ⟨_, H2, I3, rw', q2⟩
/-- {k: v} -/
def tXDisp (K : PySem.W.Frag) (tk tv : TE) : TE := fun σ H Q => ∀ p, H p = none → tk σ (upd H p (DX p [])) fun y H1 => tv σ H1 fun v H2 => ∃ H3, XPut K H2 p y v H3 ∧ Q (.ref p) H3
theorem pe_xdisp (hu : X.A.units + 1 < cLine) (pw : PwX X) (hk : PE X i ty) (hv : PE X value tv) : PE X (.Dict [some i] [value] pos) (tXDisp X.K ty tv) := by
  refine ⟨fun pins s σ H Q I q => ?_⟩
  have hn := I.hok.fresh (Nat.le_refl s.heap.objs.size)
  refine wpAny_Dict_any rfl rfl (by simp) (by simp) (pairTrees_cons_walk (thn (hk.run pins _ σ _ _ (x_laid pw I) (q _ hn)) fun u s1 ⟨y, H1, I1, ry, q1⟩ => thn (hv.run pins s1 σ H1 _ I1 q1) fun r s2 ⟨v, H2, I2, rv, H3, g, q2⟩ => pairTrees_nil_walk ?_))
  unfold storeAll
  rw [List.forIn_cons]
  refine wpAny_bind (wpAny_bind (x_dictSet hu pw I2 g ry rv fun s3 I3 => wpAny_pure ?_))
  show wpAny _ _ (forIn [] _ _) _ _ _
  rw [List.forIn_nil]
  exact wpAny_pure ⟨.ref s.heap.objs.size, H3, I3, rfl, q2⟩
end
end Fli
set_option Elab.async false
set_option linter.all false
set_option maxRecDepth 100000
set_option maxHeartbeats 4000000
namespace Fli
open PySem PySem.Spec PyProof.Rows L2
variable [HW]
section
variable {K : PySem.W.Frag} {mg : Str → Option Value} {sd s' : S} {σ : L2.St} {H H' W W' : Hp}
theorem dts_ok {gs : List Ent} {kvs : List (List Key × D)} (le : Le W H) (r : DTs K mg W gs kvs) : KeysOk K H gs := fun p hp => st_le le (DTs.keys r p hp)
theorem dts_get {gs : List Ent} {kvs : List (List Key × D)} {a b : Addr} {k : List Key} {d : D} (le : Le W H) (e : H a = some (DX a gs)) (r : DTs K mg W gs kvs) (s : SqF K W b (k.map kV)) (h : valP kvs k = some d) : ∃ v, XGet K H a (.ref b) (some v) ∧ DR K mg W v d := by
  rcases r.val (k := k) with ⟨v, d1, z1, z2, rd⟩ | ⟨_, z⟩
  · rw [h] at z2; cases z2
    exact ⟨v, ⟨gs, k, b, e, dts_ok le r, rfl, st_le le s, z1.symm⟩, rd⟩
  · rw [h] at z; cases z
theorem dts_any {gs : List Ent} {kvs : List (List Key × D)} {a b : Addr} {k : List Key} (le : Le W H) (e : H a = some (DX a gs)) (r : DTs K mg W gs kvs) (s : SqF K W b (k.map kV)) : ∃ o, XGet K H a (.ref b) o ∧ o.isSome = (valP kvs k).isSome ∧ (∀ d, valP kvs k = some d → ∃ v, o = some v ∧ DR K mg W v d) ∧ (valP kvs k = none → o = none) := by
  refine ⟨valX gs k, ⟨gs, k, b, e, dts_ok le r, rfl, st_le le s, rfl⟩, ?_⟩
  rcases r.val (k := k) with ⟨v, d1, z1, z2, rd⟩ | ⟨z1, z2⟩
  · refine ⟨by rw [z1, z2]; rfl, ⟨fun d (h : valP kvs k = some d) => ?_, fun (h : valP kvs k = none) => ?_⟩⟩
    · rw [h] at z2; cases z2; exact ⟨v, z1, rd⟩
    · rw [h] at z2; cases z2
  · refine ⟨by rw [z1, z2]; rfl, ⟨fun d (h : valP kvs k = some d) => ?_, fun _ => z1⟩⟩
    rw [h] at z2; cases z2
/-- a slot's dict, read in passing -/
def mDit (i : Nat) : M (List (List Key × D)) := fun s => match s[i]? with
  | some (some (.own (.dit kvs))) => some (kvs, s)
  | some (some (.d (.dit kvs))) => some (kvs, s)
  | _ => none
theorem mDit_at {i : Nat} {kvs : List (List Key × D)} (st : St K mg sd σ H W) (h : mDit i sd = some (kvs, s')) : s' = sd ∧ ∃ a gs, σ[i]? = some (some (.ref a)) ∧ H a = some (DX a gs) ∧ DTs K mg W gs kvs := by
  unfold mDit at h
  split at h
  · rename_i ds' e
    cases h
    obtain ⟨a, e1, w, gs, e2, r⟩ := st.own i _ e
    exact ⟨rfl, a, gs, e1, e2, r⟩
  · rename_i ds' e
    cases h
    obtain ⟨v, e1, r⟩ := st.dat i _ e
    cases r with
    | dit s r => exact ⟨rfl, _, _, e1, st.le _ _ s, r⟩
  · cases h
def mDow (i : Nat) : M (List (List Key × D)) := fun s => match s[i]? with
  | some (some (.own (.dit kvs))) => some (kvs, s)
  | _ => none
theorem mDow_at {i : Nat} {kvs : List (List Key × D)} (st : St K mg sd σ H W) (h : mDow i sd = some (kvs, s')) : s' = sd ∧ sd[i]? = some (some (.own (.dit kvs))) ∧ ∃ a gs, σ[i]? = some (some (.ref a)) ∧ W a = none ∧ H a = some (DX a gs) ∧ DTs K mg W gs kvs := by
  unfold mDow at h
  split at h
  · rename_i ds' e
    cases h
    obtain ⟨a, e1, w, gs, e2, r⟩ := st.own i _ e
    exact ⟨rfl, e, a, gs, e1, w, e2, r⟩
  · cases h
end
/-! reading -/
def dixT : D → D → Option D
  | .dit kvs, k => (keyT k).bind (valP kvs)
  | _, _ => none
def dgetT : D → D → Option D
  | .dit kvs, k => (keyT k).map fun k => (valP kvs k).getD .non
  | _, _ => none
def dinT : D → D → Option D
  | k, .dit kvs => (keyT k).map fun k => .bl (valP kvs k).isSome
  | _, _ => none
def dninT : D → D → Option D
  | k, .dit kvs => (keyT k).map fun k => .bl (!(valP kvs k).isSome)
  | _, _ => none
section
variable {K : PySem.W.Frag} {mg : Str → Option Value}
theorem rd_xin : R2D K mg (rXIn K) dinT := R2D.of fun x y z vx vy H W le hx hy hf Q q => by
  unfold dinT at hf
  split at hf
  · simp only [Option.map_eq_some_iff] at hf
    obtain ⟨k, h1, rfl⟩ := hf
    obtain ⟨b, rfl, s⟩ := keyT_v hx h1
    cases hy with
    | dit h r =>
      obtain ⟨o, g, e, _⟩ := dts_any le (le _ _ h) r s
      exact ⟨_, o, rfl, g, by rw [e]; exact q _ (.bl _)⟩
  · cases hf
theorem rd_xnin : R2D K mg (rXNin K) dninT := R2D.of fun x y z vx vy H W le hx hy hf Q q => by
  unfold dninT at hf
  split at hf
  · simp only [Option.map_eq_some_iff] at hf
    obtain ⟨k, h1, rfl⟩ := hf
    obtain ⟨b, rfl, s⟩ := keyT_v hx h1
    cases hy with
    | dit h r =>
      obtain ⟨o, g, e, _⟩ := dts_any le (le _ _ h) r s
      exact ⟨_, o, rfl, g, by rw [e]; exact q _ (.bl _)⟩
  · cases hf
end
section
variable {X : Cx} {a e : Expr} {pos p2 apos cpos : Pos} {x : Str} {ma mb m : M D} {pr : List Nat}
theorem e_dixT (hu : X.A.units + 1 < cLine) (pw : PwX X) (ha : DE X a ma) (hb : DE X e mb) (hs : NoSl e := by exact fun _ _ => rfl) : DE X (.Subscript a e pos) (mBin dixT ma mb) := PE.imp (pe_xget hu pw ha hb hs) fun σ H Q ⟨sd, W, d, sd', st, em, q⟩ => by
  obtain ⟨x, s1, e1, em⟩ := bindM_some em
  obtain ⟨y, s2, e2, em⟩ := bindM_some em
  obtain ⟨e3, rfl⟩ := optM_some em
  refine ⟨sd, W, x, s1, st, e1, fun v H1 W1 st1 k1 r1 => ⟨s1, W1, y, sd', st1, e2, fun u H2 W2 st2 k2 r2 => ?_⟩⟩
  unfold dixT at e3
  split at e3
  · simp only [Option.bind_eq_some_iff] at e3
    obtain ⟨k, h1, h2⟩ := e3
    obtain ⟨b, rfl, s⟩ := keyT_v r2 h1
    cases r1 with
    | @dit ad gs _ hw rg =>
      obtain ⟨v, g, r⟩ := dts_get st2.le (st2.le _ _ (k2.le _ _ hw)) (rg.le k2.le) s h2
      exact ⟨ad, v, rfl, g, q _ H2 W2 st2 (k1.trans k2) r⟩
  · cases e3
theorem e_dgetT (hu : X.A.units + 1 < cLine) (pw : PwX X) (ha : DE X a ma) (hb : DE X e mb) (m1 : M1 X a "get" apos e cpos := by exact ⟨rfl, rfl, rfl, rfl⟩) : DE X (.Call (.Attribute a "get" apos) [e] [] cpos) (mBin dgetT ma mb) := PE.imp (pe_xget1 hu pw ha hb m1) fun σ H Q ⟨sd, W, d, sd', st, em, q⟩ => by
  obtain ⟨x, s1, e1, em⟩ := bindM_some em
  obtain ⟨y, s2, e2, em⟩ := bindM_some em
  obtain ⟨e3, rfl⟩ := optM_some em
  refine ⟨sd, W, x, s1, st, e1, fun v H1 W1 st1 k1 r1 => ?_⟩
  unfold dgetT at e3
  split at e3
  · simp only [Option.map_eq_some_iff] at e3
    obtain ⟨k, h1, rfl⟩ := e3
    cases r1 with
    | @dit ad gs _ hw rg =>
      refine ⟨ad, gs, rfl, st1.le _ _ hw, dts_ok st1.le rg, s1, W1, y, sd', st1, e2, fun u H2 W2 st2 k2 r2 => ?_⟩
      obtain ⟨b, rfl, s⟩ := keyT_v r2 h1
      obtain ⟨o, g, _, g1, g2⟩ := dts_any st2.le (st2.le _ _ (k2.le _ _ hw)) (rg.le k2.le) s
      refine ⟨o, g, q _ H2 W2 st2 (k1.trans k2) ?_⟩
      cases hv : valP _ k with
      | some d =>
        obtain ⟨v, rfl, r⟩ := g1 d hv
        exact r
      | none => rw [g2 hv]; exact .non
  · cases e3
/-- x[e], x a slot's dict, read in passing -/
def dixN (i : Nat) (mb : M D) : M D := bindM (mDit i) fun _ => bindM mb fun y => bindM (mDit i) fun kvs => optM ((keyT y).bind (valP kvs))
theorem e_dixN (i : Nat) (hu : X.A.units + 1 < cLine) (pw : PwX X) (hn : PE X (.Name x p2) (tVar i)) (hb : DE X e mb) (hs : NoSl e := by exact fun _ _ => rfl) : DE X (.Subscript (.Name x p2) e pos) (dixN i mb) := PE.imp (pe_xget hu pw hn hb hs) fun σ H Q ⟨sd, W, d, sd', st, em, q⟩ => by
  obtain ⟨k0, s0, e0, em⟩ := bindM_some em
  obtain ⟨y, s2, e2, em⟩ := bindM_some em
  obtain ⟨kvs, s3, e3, em⟩ := bindM_some em
  obtain ⟨e4, rfl⟩ := optM_some em
  obtain ⟨rfl, a, gs0, ha, _, _⟩ := mDit_at st e0
  refine ⟨_, ha, s0, W, y, s2, st, e2, fun u H2 W2 st2 k2 r2 => ?_⟩
  obtain ⟨rfl, a', gs, ha', g1, rg⟩ := mDit_at st2 e3
  rw [ha] at ha'; cases ha'
  simp only [Option.bind_eq_some_iff] at e4
  obtain ⟨k, h1, h2⟩ := e4
  obtain ⟨b, rfl, s⟩ := keyT_v r2 h1
  obtain ⟨v, g, r⟩ := dts_get st2.le g1 rg s h2
  exact ⟨a, v, rfl, g, q _ H2 W2 st2 k2 r⟩
/-- e in x, e not in x -/
def dinN (neg : Bool) (i : Nat) (ma : M D) : M D := bindM ma fun y => bindM (mDit i) fun kvs => optM ((keyT y).map fun k => .bl (neg ^^ (valP kvs k).isSome))
theorem t_dinN {neg : Bool} {i : Nat} {K : PySem.W.Frag} {mg : Str → Option Value} {r : R2} (hr : ∀ a o H Q b, XGet K H a b o → Q (.bl (neg ^^ o.isSome)) H → r b (.ref a) H Q) {σ : L2.St} {H : Hp} {Q : VK} (h : tD K mg (dinN neg i ma) σ H Q) : tOp r (tD K mg ma) (tVar i) σ H Q := by
  obtain ⟨sd, W, d, sd', st, em, q⟩ := h
  obtain ⟨y, s2, e2, em⟩ := bindM_some em
  obtain ⟨kvs, s3, e3, em⟩ := bindM_some em
  obtain ⟨e4, rfl⟩ := optM_some em
  refine ⟨sd, W, y, s2, st, e2, fun u H2 W2 st2 k2 r2 => ?_⟩
  obtain ⟨rfl, a, gs, ha, g1, rg⟩ := mDit_at st2 e3
  simp only [Option.map_eq_some_iff] at e4
  obtain ⟨k, h1, rfl⟩ := e4
  obtain ⟨b, rfl, s⟩ := keyT_v r2 h1
  obtain ⟨o, g, e, _⟩ := dts_any st2.le g1 rg s
  exact ⟨_, ha, hr a o H2 Q (.ref b) g (by rw [e]; exact q _ H2 W2 st2 k2 (.bl _))⟩
theorem e_cmpdinN (i : Nat) (hu : X.A.units + 1 < cLine) (pw : PwX X) (ha : DE X a ma) (hn : PE X (.Name x p2) (tVar i)) (hm : behindInMarks .In (.Name x p2) = false := by rfl) : DE X (.Compare a [.In] [.Name x p2] pos) (dinN false i ma) :=
  PE.imp (pe_cmpR (op_xin hu pw) ha hn hm) fun σ H Q h => t_dinN (fun a o H Q b g q => ⟨a, o, rfl, g, by simpa using q⟩) h
theorem e_cmpdninN (i : Nat) (hu : X.A.units + 1 < cLine) (pw : PwX X) (ha : DE X a ma) (hn : PE X (.Name x p2) (tVar i)) (hm : behindInMarks .NotIn (.Name x p2) = false := by rfl) : DE X (.Compare a [.NotIn] [.Name x p2] pos) (dinN true i ma) :=
  PE.imp (pe_cmpR (op_xnin hu pw) ha hn hm) fun σ H Q h => t_dinN (fun a o H Q b g q => ⟨a, o, rfl, g, by simpa using q⟩) h
theorem b_cmpdinN (i : Nat) (hu : X.A.units + 1 < cLine) (pw : PwX X) (ha : DE X a ma) (hn : PE X (.Name x p2) (tVar i)) (hm : behindInMarks .In (.Name x p2) = false := by rfl) : BT X (.Compare a [.In] [.Name x p2] pos) (bindM (dinN false i ma) fun d => optM (blD d)) :=
  PT.imp (pt_cmpR (op_xin hu pw) ha hn hm) fun σ H Q h => t_test (fun _ _ _ z => t_dinN (fun a o H Q b g q => ⟨a, o, rfl, g, by simpa using q⟩) z) h
theorem b_cmpdninN (i : Nat) (hu : X.A.units + 1 < cLine) (pw : PwX X) (ha : DE X a ma) (hn : PE X (.Name x p2) (tVar i)) (hm : behindInMarks .NotIn (.Name x p2) = false := by rfl) : BT X (.Compare a [.NotIn] [.Name x p2] pos) (bindM (dinN true i ma) fun d => optM (blD d)) :=
  PT.imp (pt_cmpR (op_xnin hu pw) ha hn hm) fun σ H Q h => t_test (fun _ _ _ z => t_dinN (fun a o H Q b g q => ⟨a, o, rfl, g, by simpa using q⟩) z) h
/-- x[e] = f -/
def dputN (i : Nat) (mi m : M D) : MS := fun s => (bindM m (fun d => bindM (mDow i) fun _ => bindM mi fun y => bindM (mDow i) fun kvs => bindM (optM (keyT y)) fun k => bindM (optM (if kvs.length < sizeLine then some () else none)) fun _ => fun s => some ((), s.set i (some (.own (.dit (putP kvs k d)))))) s).map fun p => .nx p.2
theorem s_dputN (i : Nat) {p3 : Pos} {b : Expr} {mi : M D} (hu : X.A.units + 1 < cLine) (pw : PwX X) (hn : PE X (.Name x p2) (tVar i)) (hb : DE X b mi) (h : DE X e m) (h6 : swapsWith e (some (.Subscript (.Name x p2) b p3)) pos.line X.env = pure false := by rfl) :
    SE X pr (.Assign [.Subscript (.Name x p2) b p3] e pos) (dputN i mi m) := PS.imp (ps_xput hu pw hn hb h h6) fun D σ H ⟨sd, W, out, st, em, q⟩ => by
  simp only [dputN, Option.map_eq_some_iff] at em
  obtain ⟨⟨_, s9⟩, em, rfl⟩ := em
  obtain ⟨d, s0, e0, em⟩ := bindM_some em
  obtain ⟨d1, s1, e1, em⟩ := bindM_some em
  obtain ⟨y, s2, e2, em⟩ := bindM_some em
  obtain ⟨kvs, s3, e3, em⟩ := bindM_some em
  obtain ⟨k, hk, em⟩ := bindO_some em
  obtain ⟨_, hz, emf⟩ := bindO_some em
  cases emf
  refine ⟨sd, W, d, s0, st, e0, fun v H1 W1 st1 k1 r1 => ?_⟩
  obtain ⟨rfl, _, a, gs0, ha, _, _, _⟩ := mDow_at st1 e1
  refine ⟨_, ha, s1, W1, y, s2, st1, e2, fun u H2 W2 st2 k2 r2 => ?_⟩
  obtain ⟨rfl, es, a', gs, ha', w, g1, r⟩ := mDow_at st2 e3
  rw [ha] at ha'; cases ha'
  obtain ⟨b', rfl, s⟩ := keyT_v r2 hk
  split at hz
  · rename_i hl
    obtain ⟨g2, g3⟩ := st2.put (ho := DX a (putX gs k b' v)) (o' := .dit (putP kvs k d)) es ha w ⟨w, _, upd_same, r.put s (r1.le k2.le)⟩
    exact ⟨a, _, rfl, ⟨gs, k, b', g1, dts_ok st2.le r, rfl, st_le st2.le s, by rw [r.len]; exact hl, rfl⟩, q σ _ _ g2 ((k1.trans k2).trans g3) Pr.refl⟩
  · cases hz
/-- {k: v} -/
def mDispT (mk mv : M D) : M O := bindM mk fun y => bindM mv fun d => optM ((keyT y).map fun k => .dit [(k, d)])
theorem o_xdisp {k v : Expr} {mk mv : M D} (hu : X.A.units + 1 < cLine) (pw : PwX X) (hk : DE X k mk) (hv : DE X v mv) : OE X (.Dict [some k] [v] pos) (mDispT mk mv) := PE.imp (pe_xdisp hu pw hk hv) fun σ H Q ⟨sd, W, o, sd', st, em, q⟩ => fun p hp => by
  obtain ⟨y, s1, e1, em⟩ := bindM_some em
  obtain ⟨d, s2, e2, em⟩ := bindM_some em
  obtain ⟨e3, rfl⟩ := optM_some em
  simp only [Option.map_eq_some_iff] at e3
  obtain ⟨kk, hk, rfl⟩ := e3
  obtain ⟨z1, z2⟩ := st.newO hp (DX p [])
  refine ⟨sd, W, y, s1, z1, e1, fun u H1 W1 st1 k1 r1 => ⟨s1, W1, d, sd', st1, e2, fun v H2 W2 st2 k2 r2 => ?_⟩⟩
  have hn : ¬ Own sd σ p := st.notOwn hp
  have kk2 := k1.trans k2
  have a1 : H2 p = some (DX p []) := kk2.keep p _ upd_same hn
  have a2 : W2 p = none := kk2.new p (st.free hp) (by rw [upd_same]; simp) hn
  have a3 : ¬ Own sd' σ p := fun z => (kk2.own p z).elim hn fun z => by rw [upd_same] at z; cases z
  obtain ⟨b, rfl, s⟩ := keyT_v r1 hk
  have s := sf_le k2.le s
  have hz : ([] : List Ent).length < sizeLine := by rw [sizeLine_eq]; decide
  have hko : KeysOk X.K H2 [] := fun p h => by cases h
  refine ⟨upd H2 p (DX p (putX [] kk b v)), ⟨[], kk, b, a1, hko, rfl, st_le st2.le s, hz, rfl⟩, ?_⟩
  have kq := z2.trans kk2
  refine q p _ W2 (st2.mut a2 a3) ⟨kq.le, fun x o h n => ?_, kq.new, kq.own, fun x h => ?_⟩ ⟨a2, _, upd_same, .cons s r2 .nil⟩ a3 hp
  · rw [upd_ne fun z => by rw [z, hp] at h; cases h]
    exact kq.keep x o h n
  · by_cases z : x = p
    · subst z; rw [upd_same]; simp
    · rw [upd_ne z]; exact kq.there x h
end
/-! while -/
def whileM (c : M Bool) (b : MS) : Nat → MS
  | 0 => fun _ => none
  | n + 1 => fun s => (c s).bind fun p => match p.1 with
    | false => some (.nx p.2)
    | true => (b p.2).bind fun o => match o with
      | .nx s2 => whileM c b n s2
      | .ct s2 => whileM c b n s2
      | .bk s2 => some (.nx s2)
      | r => some r
theorem s_while {X : Cx} {pr : List Nat} {c : Expr} {body : List Stmt} {pos : Pos} {mc : M Bool} {mb : MS} (n : Nat) (hp : PassesOwn (model X.prog X.w) X.A X.env X.xe) (hc : BT X c mc) (hb : SEs X pr body mb) : SE X pr (.While c body [] pos) (whileM mc mb n) := PS.imp (ps_while hp hc hb) fun D σ H ⟨sd, W, out, st, em, q⟩ => by
  refine ⟨fun m σ' H' => ∃ sd' W', St X.K X.mg sd' σ' H' W' ∧ Kp sd σ H W sd' σ' H' W' ∧ Pr pr σ σ' ∧ whileM mc mb m sd' = some out, ⟨n, sd, W, st, Kp.refl, Pr.refl, em⟩, ?_⟩
  rintro m σ1 H1 ⟨s1, W1, st1, k1, p1, em⟩
  cases m with
  | zero => cases em
  | succ m =>
    simp only [whileM, Option.bind_eq_some_iff] at em
    obtain ⟨⟨k, s2⟩, e1, em⟩ := em
    refine ⟨s1, W1, k, s2, st1, e1, fun H2 W2 st2 k2 => ?_⟩
    cases k with
    | false =>
      rw [if_neg (by simp)]
      cases em
      exact q σ1 H2 W2 st2 (k1.trans k2) p1
    | true =>
      rw [if_pos rfl]
      simp only [Option.bind_eq_some_iff] at em
      obtain ⟨o, e2, em⟩ := em
      refine ⟨fun σ' H' => ∃ sd' W', St X.K X.mg sd' σ' H' W' ∧ Kp sd σ H W sd' σ' H' W' ∧ Pr pr σ σ' ∧ whileM mc mb m sd' = some out, fun σ' H' h => ⟨m, by omega, h⟩, s2, W2, o, st2, e2, ?_⟩
      have kk := k1.trans k2
      cases o with
      | nx s3 => exact fun σ3 H3 W3 st3 k3 p3 => ⟨s3, W3, st3, kk.trans k3, p1.trans p3, em⟩
      | ct s3 => exact fun σ3 H3 W3 st3 k3 p3 => ⟨s3, W3, st3, kk.trans k3, p1.trans p3, em⟩
      | bk s3 =>
        cases em
        exact fun σ3 H3 W3 st3 k3 p3 => q σ3 H3 W3 st3 (kk.trans k3) (p1.trans p3)
      | rd d s3 =>
        cases em
        exact fun v σ3 H3 W3 st3 k3 p3 r => q v σ3 H3 W3 st3 (kk.trans k3) (p1.trans p3) r
      | ro o s3 =>
        cases em
        exact fun v σ3 H3 W3 st3 k3 p3 r n e => q v σ3 H3 W3 st3 (kk.trans k3) (p1.trans p3) r n (Fr.back kk p1 e)
end Fli
set_option Elab.async false
set_option linter.all false
set_option maxRecDepth 100000
set_option maxHeartbeats 4000000
namespace Fli
open PySem PySem.Spec PyProof.Rows L2
variable [HW]
section
variable {X : Cx}
/-- {k: v for target in iter if ..}, its keys tuples: B the new dict -/
def tDcX (K : PySem.W.Frag) (wi : TI) (g : TG) (tt : TT) (tk tv : TE) (vs : List Nat) : TE := fun σ H Q => wi σ H fun J H1 => ∀ B, H1 B = none → ∃ W : Nat → Nat → Hp → Prop, (∃ m, W 0 m (upd H1 B (DX B []))) ∧ ∀ i m H, W i m H →
  (J.stop i H ∧ Q (.ref B) H) ∨ (J.go i H ∧ ∃ Nx : Hp → Prop, (∀ H', Nx H' → ∃ m', m' < m ∧ W (i + 1) m' H') ∧ ∀ x H', J.yld i H x H' → g x (wipe σ vs) H' fun σ2 H2 => wipe σ2 vs = wipe σ vs ∧ tt σ2 H2 fun b H3 =>
    if b = true then tk σ2 H3 fun y H4 => tv σ2 H4 fun z H5 => ∃ H6, XPut K H5 B y z H6 ∧ Nx H6 else Nx H3)
theorem pw_blk (pw : PwX X) {s : Shared} {H : Hp} {scope : Scope} {env : Env} {fp : List Addr} : PwX (X.blk s H scope env fp) := pw
theorem xc_core {pins : List (Addr × Obj)} {s : Shared} {σ : L2.St} {H : Hp} {Q : VK} {kx vx tg it0 : Expr} {ifs : List Expr} {scope : Scope} {own : List (Str × Nat)} {pos pos' : Pos} {wi : TI} {g : TG} {tt : TT} {tk tv : TE} {use : Option (Value → Sem Unit)} {Qf : Value → Shared → Prop}
    (hu : X.A.units + 1 < cLine) (pw : PwX X) (hcalm : X.calm = true) (nodup : X.N.Nodup) (I : Inv X pins σ H s) (hi : PI X tg it0 wi) (ok : BlkOk X.N X.env.scope scope own) (hg : Blks X scope fun Y => PG Y tg g) (ht : Blks X scope fun Y => PTs Y ifs tt) (hk : Blks X scope fun Y => PE Y kx tk) (he : Blks X scope fun Y => PE Y vx tv)
    (hs : ∀ x, foldedSetIterable it0 X.env x = pure x) (h : tDcX X.K wi g tt tk tv (own.map (·.2)) σ H Q)
    (fin : ∀ B C s' m H', Inv X pins σ H' s' → Q (.ref B) H' → s'.heap.Ns C m → FpOk X pins H' C → compPost (model X.prog X.w) X.A X.xe use Qf (.ref B) C (.ok .next) s') :
    wpAny (model X.prog X.w) X.A (comprehension (.DictComp kx vx [⟨tg, it0, ifs, 0⟩] scope pos) scope X.env pos' newDict false (eval it0 X.env) use) Qf X.xe s := by
  have frees : ∀ y ∈ scope.names, y.2 = .free → ∃ c, X.env.cells.lookup y.1 = some c := fun y hy e => (ok.free y hy e).elim (fun k => I.ok.has _ (.inl k)) fun k => I.ok.has _ (.inr k)
  refine wpAny_comprehension_free (use := use) rfl hs (closure_ok frees) ok.kind (fun y hy e => by rw [ok.uniq y hy, e]) (thn (hi.run pins s σ H _ I h) fun xv s1 hx => thn hx fun itv s2 h2 => ?_)
  obtain ⟨it, fp, tn, J, H2, e, I2, T, st2, f2, q⟩ := h2
  subst e
  refine wpAny_newObj_type (newEnv_comp ?_)
  generalize hB : s2.heap.objs.size = B
  have freshB : H2 B = none := I2.hok.fresh (Nat.le_of_eq hB)
  obtain ⟨W, ⟨m0, w0⟩, turn⟩ := q B freshB
  generalize ht3 : ({ s2 with heap := s2.heap.push { cls := .type "dict", data := .dict #[] } } : Shared) = t3
  have I3 : Inv X pins σ (upd H2 B (DX B [])) t3 := by
    rw [← ht3, ← hB]
    exact x_laid pw I2
  have grown : t3.heap = s2.heap.push { cls := .type "dict", data := .dict #[] } := by rw [← ht3]
  have below : ∀ b ∈ fp, b < s2.heap.objs.size := fun b hb => let ⟨o, e, _⟩ := T.obj _ _ st2 b hb; Heap.lt_size e
  have f3 : ∀ b ∈ fp, FpOk X pins (upd H2 B (DX B [])) b ∧ b < t3.heap.objs.size := fun b hb => by
    have lt := below b hb
    refine ⟨⟨?_, (f2 b hb).2⟩, by rw [grown, Heap.size_push]; exact Nat.lt_succ_of_lt lt⟩
    rw [upd_ne (by rw [← hB]; exact Nat.ne_of_lt lt)]
    exact (f2 b hb).1
  have st3 : tn 0 t3.heap := T.keep _ _ _ st2 fun b _ o e => by rw [grown]; exact Heap.get?_push_of_some _ e
  have I4 := block_start I3 ok nodup f3
  have pg := hg t3 (upd H2 B (DX B [])) t3.heap.objs.size (cellsFrom (t3.heap.objs.size + 1) scope.names (cloFrom X.env.cells scope.names [])) fp
  have pt := ht t3 (upd H2 B (DX B [])) t3.heap.objs.size (cellsFrom (t3.heap.objs.size + 1) scope.names (cloFrom X.env.cells scope.names [])) fp
  have pk := hk t3 (upd H2 B (DX B [])) t3.heap.objs.size (cellsFrom (t3.heap.objs.size + 1) scope.names (cloFrom X.env.cells scope.names [])) fp
  have pe := he t3 (upd H2 B (DX B [])) t3.heap.objs.size (cellsFrom (t3.heap.objs.size + 1) scope.names (cloFrom X.env.cells scope.names [])) fp
  show codeAny _ _ (.compStart (.DictComp kx vx [⟨tg, it0, ifs, 0⟩] scope pos) 0 (.ref it) (.ref B) (compEnvC scope (cellsFrom (t3.heap.objs.size + 1) scope.names (cloFrom X.env.cells scope.names [])) t3.heap.objs.size X.env)) (compPost (model X.prog X.w) X.A X.xe use Qf (.ref B) t3.heap.objs.size) { t3 with heap := pushCells (t3.heap.push { cls := .type "dict", data := .dict #[] }) scope.names }
  have noneFp : ∀ b ∈ fp, (upd H2 B (DX B [])) b = none := fun b hb => (f3 b hb).1.1
  generalize hce : compEnvC scope (cellsFrom (t3.heap.objs.size + 1) scope.names (cloFrom X.env.cells scope.names [])) t3.heap.objs.size X.env = ce at I4 pg pt pk pe ⊢
  have locs : ce.locals = t3.heap.objs.size := by rw [← hce]; rfl
  generalize hH3 : upd H2 B (DX B []) = H3 at I3 I4 pg pt pk pe w0 noneFp f3
  generalize ht4 : ({ t3 with heap := pushCells (t3.heap.push { cls := .type "dict", data := .dict #[] }) scope.names } : Shared) = t4 at I4 ⊢
  have st4 : tn 0 t4.heap := T.keep _ _ _ st3 fun b _ o e => by rw [← ht4]; exact pushCells_keeps _ _ _ _ (Heap.get?_push_of_some _ e)
  have still : ∀ {σ' : L2.St} {H' : Hp} {s' : Shared}, Inv (X.blk t3 H3 scope ce fp) [] σ' H' s' → (∀ b ∈ fp, H' b = none) → ∀ b ∈ fp, FpOk (X.blk t3 H3 scope ce fp) [] H' b := fun {σ' H' s'} I' hn b hb =>
    ⟨hn b hb, (I'.ok.exf b hb).1, I'.ok.exfs b hb, .inl hb, fun x c e => (I'.ok.exf b hb).2 x c e, fun p hp => absurd (show p ∈ ([] : List (Addr × Obj)) ++ [] from hp) (by simp)⟩
  have rounds : codeAny (model X.prog X.w) X.A (.compLoop (.DictComp kx vx [⟨tg, it0, ifs, 0⟩] scope pos) 0 (.ref it) (.ref B) ce) (compPost (model X.prog X.w) X.A X.xe use Qf (.ref B) t3.heap.objs.size) t4 := by
    refine compLoop_anyD (fun n s' => ∃ i H', Inv (X.blk t3 H3 scope ce fp) [] (wipe σ (own.map (·.2))) H' s' ∧ tn i s'.heap ∧ (∀ b ∈ fp, H' b = none) ∧ W i n H') ?_ m0 ⟨0, H3, I4, st4, noneFp, w0⟩
    rintro n s5 ⟨i, H5, I5, st5, n5, w5⟩
    rcases turn i n H5 w5 with ⟨stop, qq⟩ | ⟨go, Nx, hNx, step⟩
    · refine thnF (T.done (X.blk t3 H3 scope ce fp) rfl rfl rfl hcalm i [] s5 _ H5 (fun _ _ => False) I5 (still I5 n5) st5 stop) fun r s6 ⟨hr, I6⟩ => ?_
      subst hr
      have I7 : Inv X pins σ H5 s6 := I3.call' (ch := fp) I6.os I6.base I6.hok I6.bare fun b hb => ⟨(f3 b hb).1.2.2.2.1, (f3 b hb).1.2.1, (f3 b hb).1.2.2.2.2.1, (f3 b hb).1.2.2.2.2.2⟩
      have noneC : H5 t3.heap.objs.size = none := by
        have z : H5 ce.locals = none := I6.free
        rwa [locs] at z
      obtain ⟨m, hn, _⟩ := I6.loc
      have hn : s6.heap.Ns ce.locals m := hn
      rw [locs] at hn
      exact fin B t3.heap.objs.size s6 m H5 I7 qq hn (I3.fpOk (Nat.le_refl _) noneC)
    · refine thnF (T.item (X.blk t3 H3 scope ce fp) rfl rfl rfl hcalm i [] s5 _ H5 (fun _ _ => False) I5 (still I5 n5) st5 go) fun r s6 ⟨u, hr, h6⟩ => ?_
      subst hr
      refine thnF h6 fun _ s7 ⟨x, H7, I7, r7, y7, st7, n7⟩ => ?_
      refine thnF (pg.run _ s7 _ H7 x u _ (I7.pinned (still I7 n7) (T.obj _ _ st7)) r7 (step x H7 y7)) fun _ s8 ⟨σ8, H8, I8, hw8, q8⟩ => ?_
      refine thnF (pt.run _ s8 σ8 H8 _ I8 q8) fun b s9 ⟨H9, I9, q9⟩ => ?_
      have over : ∀ {s' : Shared} {H' : Hp}, Inv (X.blk t3 H3 scope ce fp) ([] ++ pinsAt fp s7.heap) σ8 H' s' → Nx H' → ∃ m, m < n ∧ ∃ i H', Inv (X.blk t3 H3 scope ce fp) [] (wipe σ (own.map (·.2))) H' s' ∧ tn i s'.heap ∧ (∀ b ∈ fp, H' b = none) ∧ W i m H' := fun {s' H'} I' nx => by
        obtain ⟨m', hm, w'⟩ := hNx H' nx
        have kept : ∀ b ∈ fp, ∀ o, s7.heap.get? b = some o → s'.heap.get? b = some o ∧ H' b = none := fun b hb o e => let z := I'.pin (b, o) (List.mem_append_right _ (List.mem_append_right _ (mem_pinsAt hb e))); ⟨z.1, z.2.1⟩
        refine ⟨m', hm, i + 1, H', (I'.unpinned (pins := [])).weak (by rw [← hw8, wipe_length]) (fun j v e => ?_), T.keep _ _ _ st7 fun b hb o e => (kept b hb o e).1, fun b hb => ?_, w'⟩
        · rw [← hw8] at e; exact (wipe_some e).1
        · obtain ⟨o, e, _⟩ := T.obj _ _ st7 b hb; exact (kept b hb o e).2
      cases b with
      | false =>
        simp only [Bool.false_eq_true, if_false] at q9 ⊢
        exact over I9 q9
      | true =>
        simp only [if_true] at q9 ⊢
        refine thnF (pk.run _ s9 σ8 H9 _ I9 q9) fun z s10 ⟨yk, H10, I10, r10, q10⟩ => ?_
        refine thnF (pe.run _ s10 σ8 H10 _ I10 q10) fun z2 s11 ⟨yv, H11, I11, r11, H12, g12, nx⟩ => ?_
        exact x_dictSet (X := X.blk t3 H3 scope ce fp) hu pw I11 g12 r10 r11 fun s12 I12 => over I12 nx
  exact codeAny_compStart_dict rounds (T.self X.A 0 _ _ _ st4 rounds)
theorem pe_xdc {kx vx tg it0 : Expr} {ifs : List Expr} {scope : Scope} {own : List (Str × Nat)} {pos : Pos} {wi : TI} {g : TG} {tt : TT} {tk tv : TE} (hu : X.A.units + 1 < cLine) (pw : PwX X) (hcalm : X.calm = true) (nodup : X.N.Nodup) (hi : PI X tg it0 wi) (ok : BlkOk X.N X.env.scope scope own)
    (hg : Blks X scope fun Y => PG Y tg g) (ht : Blks X scope fun Y => PTs Y ifs tt) (hk : Blks X scope fun Y => PE Y kx tk) (he : Blks X scope fun Y => PE Y vx tv) (hs : ∀ x, foldedSetIterable it0 X.env x = pure x := by intro _; rfl) :
    PE X (.DictComp kx vx [⟨tg, it0, ifs, 0⟩] scope pos) (tDcX X.K wi g tt tk tv (own.map (·.2))) := ⟨fun pins s σ H Q I h => by
  rw [arm_eval_DictComp]
  refine xc_core hu pw hcalm nodup I hi ok hg ht hk he hs h fun B C s' m H' I' q hn f => ⟨m, hn, fun h'' sb => ?_⟩
  obtain ⟨f0, f1, f2, f3, f4, f5⟩ := f
  exact ⟨.ref B, H', I'.turned (t' := s'.toks) (fun b o hb e => (sb.2 b hb).trans e) f0 f1 f3 f4 f5, rfl, q⟩⟩
end
/-! its mirror -/
def dtL (vs : List Nat) (asg : D → S → Option S) (c : M Bool) (kx vx : M D) : List D → List (List Key × D) → M (List (List Key × D))
  | [], acc => fun s => some (acc, s)
  | d :: ds, acc => fun s => (asg d s).bind fun s1 => (c s1).bind fun p => match p.1 with
    | true => (kx p.2).bind fun q => (vx q.2).bind fun r => (keyT q.1).bind fun k => if acc.length < sizeLine then dtL vs asg c kx vx ds (putP acc k r.1) (wipeS vs r.2) else none
    | false => dtL vs asg c kx vx ds acc (wipeS vs p.2)
def dtM (mi : M (List D)) (vs : List Nat) (asg : D → S → Option S) (c : M Bool) (kx vx : M D) : M O := fun s => (mi s).bind fun q => if noOwn vs q.2 = true then (dtL vs asg c kx vx q.1 [] (wipeS vs q.2)).map fun r => (.dit r.1, restS q.2 vs r.2) else none
def ditR (K : PySem.W.Frag) (mg : Str → Option Value) (B : Addr) (acc : List (List Key × D)) : Hp → HO → Prop := fun W u => ∃ av, u = DX B av ∧ DTs K mg W av acc
theorem ditR_mono {K : PySem.W.Frag} {mg : Str → Option Value} {B : Addr} {acc : List (List Key × D)} : Mono (ditR K mg B acc) := fun W W' u le ⟨av, e, r⟩ => ⟨av, e, r.le le⟩
section
variable {K : PySem.W.Frag} {mg : Str → Option Value} {b : Bool} {mi : M (List D)} {vs : List Nat} {g : TG} {asg : D → S → Option S} {c : M Bool} {kx vx : M D}
theorem t_dt (hf : TGx b K mg [] g asg) (hw : TGw vs g) {σ : L2.St} {H : Hp} {Q : VK} (h : tO K mg (dtM mi vs asg c kx vx) σ H Q) : tDcX K (tI b K mg mi) g (tB K mg c) (tD K mg kx) (tD K mg vx) vs σ H Q := by
  obtain ⟨sd, W, o, sd', st, em, q⟩ := h
  simp only [dtM, Option.bind_eq_some_iff] at em
  obtain ⟨⟨ds, s1⟩, e1, em⟩ := em
  dsimp only at em
  split at em
  case isFalse => cases em
  rename_i no
  simp only [Option.map_eq_some_iff] at em
  obtain ⟨r, e2, em⟩ := em
  cases em
  refine ⟨sd, W, ds, s1, st, e1, fun J H1 W1 st1 k1 io Dl hD => ?_⟩
  let Nx (i : Nat) (H' : Hp) : Prop := ∃ s' W' acc, Fil K mg (ditR K mg Dl acc) Dl (wipeS vs s1) (L2.wipe σ vs) H1 W1 s' (L2.wipe σ vs) H' W' ∧ dtL vs asg c kx vx (ds.drop i) acc s' = some r
  refine ⟨fun i m H' => Nx i H' ∧ m + i = ds.length, ⟨ds.length, ⟨wipeS vs s1, W1, [], ?_, e2⟩, rfl⟩, ?_⟩
  · obtain ⟨z1, z2⟩ := (st1.wipe (vs := vs)).newO hD (DX Dl [])
    exact ⟨z1, z2, st1.free hD, fun z => st1.notOwn hD z.wipe, _, upd_same, [], rfl, .nil⟩
  rintro i m H' ⟨⟨s', W', acc, f, em⟩, hm⟩
  have lW : Le W1 W' := f.kp.le
  by_cases hi : i < ds.length
  · refine .inr ⟨io.go i H' (lW.trans f.st.le) hi, Nx (i + 1), fun H2 n => ⟨m - 1, by omega, n, by omega⟩, ?_⟩
    intro x H2 y
    rw [List.drop_eq_getElem_cons hi] at em
    simp only [dtL, Option.bind_eq_some_iff] at em
    obtain ⟨s2, a1, ⟨k, s3⟩, a2, em⟩ := em
    have ww : L2.wipe (L2.wipe σ vs) vs = L2.wipe σ vs := wipe_wipe
    have key := hw x (L2.wipe σ vs) H2 (fun σ2 H3 => tB K mg c σ2 H3 fun kb H4 => if kb = true then tD K mg kx σ2 H4 fun y H5 => tD K mg vx σ2 H5 fun z H6 => ∃ H7, XPut K H6 Dl y z H7 ∧ Nx (i + 1) H7 else Nx (i + 1) H4)
      (f.item ditR_mono io lW y (List.getElem?_eq_getElem hi) hf a1 fun σ2 H3 W3 _ f2 _ hz => ?_)
    · rw [ww] at key; exact key
    rw [ww] at hz
    refine ⟨s2, W3, k, s3, f2.st, a2, fun H4 W4 st4 k4 => ?_⟩
    have f4 := f2.step ditR_mono st4 k4
    cases k with
    | false => exact iteF ⟨wipeS vs s3, W4, acc, f4.wiped hz, em⟩
    | true =>
      refine iteT ?_
      simp only [Option.bind_eq_some_iff] at em
      obtain ⟨⟨y5, s5⟩, a3, ⟨z6, s6⟩, a4, kk, a5, em⟩ := em
      split at em
      case isFalse => cases em
      rename_i hsz
      refine ⟨s3, W4, y5, s5, f4.st, a3, fun v H5 W5 st5 k5 r5 => ?_⟩
      have f5 := f4.step ditR_mono st5 k5
      refine ⟨s5, W5, z6, s6, f5.st, a4, fun v6 H6 W6 st6 k6 r6 => ?_⟩
      have f6 := f5.step ditR_mono st6 k6
      obtain ⟨u, hu, av, rfl, ra⟩ := f6.ob
      obtain ⟨b5, rfl, s5'⟩ := keyT_v r5 a5
      have s6' := sf_le k6.le s5'
      exact ⟨_, ⟨av, kk, b5, hu, dts_ok f6.st.le ra, rfl, st_le f6.st.le s6', by rw [ra.len]; exact hsz, rfl⟩, wipeS vs s6, W6, _, (f6.put hD ⟨_, rfl, ra.put s6' r6⟩).wiped hz, em⟩
  · rw [List.drop_eq_nil_of_le (by omega)] at em
    cases em
    refine .inl ⟨io.stop i H' (lW.trans f.st.le) (by omega), ?_⟩
    obtain ⟨u, hu, av, rfl, ra⟩ := f.ob
    obtain ⟨z1, z2⟩ := f.st.rest st1 f.kp.le no
    exact q Dl H' W' z1 (k1.trans ⟨f.kp.le, fun a o h q => f.kp.keep a o h fun z => q z.wipe, fun a h h' q => f.kp.new a h h' fun z => q z.wipe, fun a h => (f.kp.own a (z2 a h)).imp (fun z => z.wipe) id, f.kp.there⟩) ⟨f.w, av, hu, ra⟩ (fun z => f.no (z2 _ z)) (k1.fresh hD)
end
section
variable {X : Cx} {b : Bool} {kx vx tg it : Expr} {ifs : List Expr} {scope : Scope} {own : List (Str × Nat)} {vs : List Nat} {pos : Pos} {g : TG} {asg : D → S → Option S} {mi : M (List D)} {c : M Bool} {mk mv : M D}
theorem o_dt (hu : X.A.units + 1 < cLine) (pw : PwX X) (hvs : own.map (fun x => x.2) = vs) (hc : X.calm = true) (hN : X.N.Nodup) (hi : IW b X tg it mi) (ok : BlkOk X.N X.env.scope scope own) (hg : Blks X scope fun Y => PG Y tg g) (hf : TGx b X.K X.mg [] g asg) (hw : TGw vs g) (ht : Blks X scope fun Y => PTs Y ifs (tB X.K X.mg c))
    (hk : Blks X scope fun Y => PE Y kx (tD X.K X.mg mk)) (he : Blks X scope fun Y => PE Y vx (tD X.K X.mg mv)) (hs : ∀ x, foldedSetIterable it X.env x = pure x := by intro _; rfl) :
    OE X (.DictComp kx vx [⟨tg, it, ifs, 0⟩] scope pos) (dtM mi vs asg c mk mv) := by
  subst hvs
  exact PE.imp (pe_xdc hu pw hc hN hi ok hg ht hk he hs) fun σ H Q h => t_dt hf hw h
end
end Fli
set_option Elab.async false
set_option linter.all false
set_option maxRecDepth 100000
set_option maxHeartbeats 4000000
namespace Fli
open PySem PySem.Spec PyProof.Rows L2
variable [HW]
/-! a dict of lists, none of them seen by anyone else, made and filled in one def -/
abbrev KL := List (List Key × List D)
inductive HL (K : PySem.W.Frag) (mg : Str → Option Value) (s : S) (σ : L2.St) (H W H0 : Hp) : List Ent → List Addr → KL → Prop
  | nil : HL K mg s σ H W H0 [] [] []
  | cons {k : List Key} {b p : Addr} {vs : List V} {ds : List D} {gs : List Ent} {ps : List Addr} {kvs : KL} : SqF K W b (k.map kV) → W p = none → ¬ Own s σ p → H0 p = none → H p = some (.lst vs) → DRs K mg W vs ds → HL K mg s σ H W H0 gs ps kvs → HL K mg s σ H W H0 ((k, b, .ref p) :: gs) (p :: ps) ((k, ds) :: kvs)
structure HD (K : PySem.W.Frag) (mg : Str → Option Value) (a : Addr) (s0 : S) (σ0 : L2.St) (H0 W0 : Hp) (s : S) (σ : L2.St) (H W : Hp) (kvs : KL) : Prop where
  st : St K mg s σ H W
  kp : Kp s0 σ0 H0 W0 s σ H W
  w : W a = none
  no : ¬ Own s σ a
  nk : (kvs.map (·.1)).Nodup
  ob : ∃ gs ps, H a = some (DX a gs) ∧ ps.Nodup ∧ HL K mg s σ H W H0 gs ps kvs
section
variable {K : PySem.W.Frag} {mg : Str → Option Value} {a : Addr} {s0 s s' : S} {σ0 σ σ' : L2.St} {H0 W0 H W H' W' : Hp} {kvs : KL} {gs : List Ent} {ps : List Addr}
theorem HL.step (st : St K mg s' σ' H' W') (k : Kp s σ H W s' σ' H' W') (h : HL K mg s σ H W H0 gs ps kvs) : HL K mg s' σ' H' W' H0 gs ps kvs := by
  induction h with
  | nil => exact .nil
  | cons h1 h2 h3 h4 h5 h6 _ ih =>
    refine .cons (sf_le k.le h1) (k.new _ h2 (by rw [h5]; simp) h3) (fun z => (k.own _ z).elim h3 fun z => by rw [h5] at z; cases z) h4 (k.keep _ _ h5 h3) (h6.le k.le) ih
theorem HL.at (h : HL K mg s σ H W H0 gs ps kvs) : ∀ p ∈ ps, ∃ vs, H p = some (.lst vs) := by
  induction h with
  | nil => intro p hp; cases hp
  | cons h1 h2 h3 h4 h5 h6 _ ih =>
    intro p hp
    rcases List.mem_cons.mp hp with e | hp
    · subst e; exact ⟨_, h5⟩
    · exact ih p hp
theorem HL.keys (h : HL K mg s σ H W H0 gs ps kvs) : ∀ p ∈ gs, SqF K W p.2.1 (p.1.map kV) := by
  induction h with
  | nil => intro p hp; cases hp
  | cons h1 h2 h3 h4 h5 h6 _ ih =>
    intro p hp
    rcases List.mem_cons.mp hp with e | hp
    · subst e; exact h1
    · exact ih p hp
theorem HL.fst (h : HL K mg s σ H W H0 gs ps kvs) : gs.map (·.1) = kvs.map (·.1) := by
  induction h with
  | nil => rfl
  | cons h1 h2 h3 h4 h5 h6 _ ih => simp [ih]
/-- another object changes -/
theorem HL.other {x : Addr} {o : HO} (hx : x ∉ ps) (h : HL K mg s σ H W H0 gs ps kvs) : HL K mg s σ (upd H x o) W H0 gs ps kvs := by
  induction h with
  | nil => exact .nil
  | @cons k b p vs ds gs ps kvs h1 h2 h3 h4 h5 h6 _ ih =>
    have n1 : p ≠ x := fun z => hx (by simp [z])
    exact .cons h1 h2 h3 h4 (by rw [upd_ne n1]; exact h5) h6 (ih fun z => hx (by simp [z]))
theorem HL.snoc {k : List Key} {b p : Addr} {vs : List V} {ds : List D} (h : HL K mg s σ H W H0 gs ps kvs) (h1 : SqF K W b (k.map kV)) (h2 : W p = none) (h3 : ¬ Own s σ p) (h4 : H0 p = none) (h5 : H p = some (.lst vs)) (h6 : DRs K mg W vs ds) : HL K mg s σ H W H0 (gs ++ [(k, b, .ref p)]) (ps ++ [p]) (kvs ++ [(k, ds)]) := by
  induction h with
  | nil => exact .cons h1 h2 h3 h4 h5 h6 .nil
  | cons g1 g2 g3 g4 g5 g6 _ ih => exact .cons g1 g2 g3 g4 g5 g6 ih
theorem HD.step (f : HD K mg a s0 σ0 H0 W0 s σ H W kvs) (st : St K mg s' σ' H' W') (k : Kp s σ H W s' σ' H' W') : HD K mg a s0 σ0 H0 W0 s' σ' H' W' kvs := by
  obtain ⟨gs, ps, h1, h2, h3⟩ := f.ob
  exact ⟨st, f.kp.trans k, k.new a f.w (by rw [h1]; simp) f.no, fun z => (k.own a z).elim f.no fun z => (by rw [h1] at z; cases z), f.nk, gs, ps, k.keep a _ h1 f.no, h2, h3.step st k⟩
theorem HL.wipe {vs : List Nat} {σ1 : L2.St} (h : HL K mg s σ H W H0 gs ps kvs) (e : L2.wipe σ vs = σ1) : HL K mg (wipeS vs s) σ1 H W H0 gs ps kvs := by
  subst e
  induction h with
  | nil => exact .nil
  | cons h1 h2 h3 h4 h5 h6 _ ih => exact .cons h1 h2 (fun z => h3 z.wipe) h4 h5 h6 ih
theorem HD.wiped {vs : List Nat} (f : HD K mg a s0 (L2.wipe σ0 vs) H0 W0 s σ H W kvs) (h : L2.wipe σ vs = L2.wipe σ0 vs) : HD K mg a s0 (L2.wipe σ0 vs) H0 W0 (wipeS vs s) (L2.wipe σ0 vs) H W kvs := by
  obtain ⟨gs, ps, h1, h2, h3⟩ := f.ob
  refine ⟨by rw [← h]; exact f.st.wipe, ⟨f.kp.le, f.kp.keep, f.kp.new, fun a z => f.kp.own a (by rw [← h] at z; exact z.wipe), f.kp.there⟩, f.w, fun z => f.no (by rw [← h] at z; exact z.wipe), f.nk, gs, ps, h1, h2, h3.wipe h⟩
theorem HD.item {b : Bool} {J : It} {items : List D} {i : Nat} {x : V} {d : D} {pr : List Nat} {g : TG} {asg : D → S → Option S} {s1 : S} {W1 : Hp} (f : HD K mg a s0 σ0 H0 W0 s σ H W kvs) (io : Iot b K mg W1 J items) (le : Le W1 W) (y : J.yld i H x H') (hd : items[i]? = some d) (hg : TGx b K mg pr g asg) (e : asg d s = some s1)
    {Q : L2.St → Hp → Prop} (q : ∀ σ2 H2 W2, Le W W2 → HD K mg a s0 σ0 H0 W0 s1 σ2 H2 W2 kvs → Pr pr σ σ2 → Q σ2 H2) : g x σ H' Q := by
  rcases io.yld i H x H' W le f.st.le y d hd with ⟨rfl, r⟩ | ⟨hb, T, vs, es, rfl, hT, rfl, rfl, r⟩
  · exact hg.1 x d s s1 σ _ W f.st r e Q fun σ2 H2 W2 st2 k2 p2 => q σ2 H2 W2 k2.le (f.step st2 k2) p2
  · obtain ⟨g1, g2⟩ := f.st.newO hT (.tup vs)
    exact hg.2 hb T vs es s s1 σ H W hT g1 r e Q fun σ2 H2 W2 st2 k2 p2 => q σ2 H2 W2 (g2.le.trans k2.le) ((f.step g1 g2).step st2 k2) p2
/-- an unseen object of this dict's own changes -/
theorem kp_own {x : Addr} {o : HO} (k : Kp s0 σ0 H0 W0 s σ H W) (h0 : H0 x = none) : Kp s0 σ0 H0 W0 s σ (upd H x o) W := by
  refine ⟨k.le, fun b u h q => ?_, k.new, k.own, fun b h => ?_⟩
  · rw [upd_ne (ne_of_none h h0)]; exact k.keep b u h q
  · by_cases z : b = x
    · rw [z, upd_same]; simp
    · rw [upd_ne z]; exact k.there b h
theorem putX_new {k : List Key} {b : Addr} {v : V} (h : k ∉ gs.map (·.1)) : putX gs k b v = gs ++ [(k, b, v)] := by
  unfold putX
  rw [if_neg]
  intro z
  rw [List.any_eq_true] at z
  obtain ⟨q, hq, e⟩ := z
  exact h (List.mem_map.mpr ⟨q, hq, of_decide_eq_true e⟩)
end
/-! {k: [] for ..} -/
def hcL (vs : List Nat) (asg : D → S → Option S) (c : M Bool) (kx : M D) : List D → KL → M KL
  | [], acc => fun s => some (acc, s)
  | d :: ds, acc => fun s => (asg d s).bind fun s1 => (c s1).bind fun p => match p.1 with
    | true => (kx p.2).bind fun q => (keyT q.1).bind fun k => if acc.length < sizeLine ∧ (acc.any fun q => decide (q.1 = k)) = false then hcL vs asg c kx ds (acc ++ [(k, [])]) (wipeS vs q.2) else none
    | false => hcL vs asg c kx ds acc (wipeS vs p.2)
def hcM (mi : M (List D)) (vs : List Nat) (asg : D → S → Option S) (c : M Bool) (kx : M D) : M KL := fun s => (mi s).bind fun q => if noOwn vs q.2 = true then (hcL vs asg c kx q.1 [] (wipeS vs q.2)).map fun r => (r.1, restS q.2 vs r.2) else none
def tHD (K : PySem.W.Frag) (mg : Str → Option Value) (m : M KL) : TE := fun σ H Q => ∃ sd W kvs sd', St K mg sd σ H W ∧ m sd = some (kvs, sd') ∧ ∀ a H' W', HD K mg a sd σ H W sd' σ H' W' kvs → H a = none → Q (.ref a) H'
def emptyO : M O := bindM (retM []) fun ds => optM (lstM ds)
section
variable {K : PySem.W.Frag} {mg : Str → Option Value} {b : Bool} {mi : M (List D)} {vs : List Nat} {g : TG} {asg : D → S → Option S} {c : M Bool} {kx : M D}
theorem t_hc (hf : TGx b K mg [] g asg) (hw : TGw vs g) {σ : L2.St} {H : Hp} {Q : VK} (h : tHD K mg (hcM mi vs asg c kx) σ H Q) : tDcX K (tI b K mg mi) g (tB K mg c) (tD K mg kx) (tO K mg emptyO) vs σ H Q := by
  obtain ⟨sd, W, o, sd', st, em, q⟩ := h
  simp only [hcM, Option.bind_eq_some_iff] at em
  obtain ⟨⟨ds, s1⟩, e1, em⟩ := em
  dsimp only at em
  split at em
  case isFalse => cases em
  rename_i no
  simp only [Option.map_eq_some_iff] at em
  obtain ⟨r, e2, em⟩ := em
  cases em
  refine ⟨sd, W, ds, s1, st, e1, fun J H1 W1 st1 k1 io Dl hD => ?_⟩
  let Nx (i : Nat) (H' : Hp) : Prop := ∃ s' W' acc, HD K mg Dl (wipeS vs s1) (L2.wipe σ vs) H1 W1 s' (L2.wipe σ vs) H' W' acc ∧ hcL vs asg c kx (ds.drop i) acc s' = some r
  refine ⟨fun i m H' => Nx i H' ∧ m + i = ds.length, ⟨ds.length, ⟨wipeS vs s1, W1, [], ?_, e2⟩, rfl⟩, ?_⟩
  · obtain ⟨z1, z2⟩ := (st1.wipe (vs := vs)).newO hD (DX Dl [])
    exact ⟨z1, z2, st1.free hD, fun z => st1.notOwn hD z.wipe, List.nodup_nil, [], [], upd_same, List.nodup_nil, .nil⟩
  rintro i m H' ⟨⟨s', W', acc, f, em⟩, hm⟩
  have lW : Le W1 W' := f.kp.le
  by_cases hi : i < ds.length
  · refine .inr ⟨io.go i H' (lW.trans f.st.le) hi, Nx (i + 1), fun H2 n => ⟨m - 1, by omega, n, by omega⟩, ?_⟩
    intro x H2 y
    rw [List.drop_eq_getElem_cons hi] at em
    simp only [hcL, Option.bind_eq_some_iff] at em
    obtain ⟨s2, a1, ⟨k, s3⟩, a2, em⟩ := em
    have ww : L2.wipe (L2.wipe σ vs) vs = L2.wipe σ vs := wipe_wipe
    have key := hw x (L2.wipe σ vs) H2 (fun σ2 H3 => tB K mg c σ2 H3 fun kb H4 => if kb = true then tD K mg kx σ2 H4 fun y H5 => tO K mg emptyO σ2 H5 fun z H6 => ∃ H7, XPut K H6 Dl y z H7 ∧ Nx (i + 1) H7 else Nx (i + 1) H4)
      (f.item io lW y (List.getElem?_eq_getElem hi) hf a1 fun σ2 H3 W3 _ f2 _ hz => ?_)
    · rw [ww] at key; exact key
    rw [ww] at hz
    refine ⟨s2, W3, k, s3, f2.st, a2, fun H4 W4 st4 k4 => ?_⟩
    have f4 := f2.step st4 k4
    cases k with
    | false => exact iteF ⟨wipeS vs s3, W4, acc, f4.wiped hz, em⟩
    | true =>
      refine iteT ?_
      simp only [Option.bind_eq_some_iff] at em
      obtain ⟨⟨y5, s5⟩, a3, kk, a5, em⟩ := em
      split at em
      case isFalse => cases em
      rename_i hsz
      obtain ⟨hsz, hnk⟩ := hsz
      have hnk : kk ∉ acc.map (·.1) := fun z => by
        obtain ⟨q, hq, e⟩ := List.mem_map.mp z
        rw [List.any_eq_false] at hnk
        exact hnk q hq (decide_eq_true e)
      refine ⟨s3, W4, y5, s5, f4.st, a3, fun v H5 W5 st5 k5 r5 => ?_⟩
      have f5 := f4.step st5 k5
      refine ⟨s5, W5, .lst [], s5, f5.st, rfl, fun p H6 W6 st6 k6 ro no6 hp => ?_⟩
      obtain ⟨gs, ps, o1, o2, o3⟩ := f5.ob
      have f6 := f5.step st6 k6
      have o6 := o3.step st6 k6
      obtain ⟨wp, vs6, hp6, r6⟩ := ro
      cases r6
      obtain ⟨b5, rfl, s5'⟩ := keyT_v r5 a5
      have s6' := sf_le k6.le s5'
      have hu : H6 Dl = some (DX Dl gs) := k6.keep Dl _ o1 f5.no
      have pa : p ≠ Dl := fun z => by rw [z, o1] at hp; cases hp
      have pps : p ∉ ps := fun z => by obtain ⟨vs, e⟩ := o3.at p z; rw [hp] at e; cases e
      have dps : Dl ∉ ps := fun z => by
        obtain ⟨vs, e⟩ := o3.at Dl z
        rw [o1] at e; cases e
      have lens : gs.length = acc.length := by
        have := congrArg List.length o3.fst
        simpa using this
      refine ⟨_, ⟨gs, kk, b5, hu, fun q hq => st_le st6.le (o6.keys q hq), rfl, st_le st6.le s6', by rw [lens]; exact hsz, rfl⟩, wipeS vs s5, W6, acc ++ [(kk, [])], HD.wiped ⟨st6.mut f6.w f6.no, kp_own f6.kp hD, f6.w, f6.no, ?_, _, ps ++ [p], upd_same, ?_, ?_⟩ hz, em⟩
      · rw [List.map_append, List.nodup_append]
        exact ⟨f6.nk, by simp, fun x hx y hy => by simp at hy; rw [hy]; exact fun z => hnk (z ▸ hx)⟩
      · rw [List.nodup_append]
        exact ⟨o2, by simp, fun x hx y hy => by simp at hy; rw [hy]; exact fun z => pps (z ▸ hx)⟩
      · rw [putX_new (by rw [o3.fst]; exact hnk)]
        exact (HL.snoc o6 s6' wp no6 (f5.kp.fresh hp) hp6 .nil).other (by simp [dps, pa.symm])
  · rw [List.drop_eq_nil_of_le (by omega)] at em
    cases em
    refine .inl ⟨io.stop i H' (lW.trans f.st.le) (by omega), ?_⟩
    obtain ⟨gs, ps, o1, o2, o3⟩ := f.ob
    obtain ⟨z1, z2⟩ := f.st.rest st1 f.kp.le no
    have hl : ∀ {gs ps kvs}, HL K mg s' (L2.wipe σ vs) H' W' H1 gs ps kvs → HL K mg (restS s1 vs s') σ H' W' H gs ps kvs := fun h => by
      induction h with
      | nil => exact .nil
      | cons h1 h2 h3 h4 h5 h6 _ ih => exact .cons h1 h2 (fun z => h3 (z2 _ z)) (k1.fresh h4) h5 h6 ih
    exact q Dl H' W' ⟨z1, k1.trans ⟨f.kp.le, fun a o h q => f.kp.keep a o h fun z => q z.wipe, fun a h h' q => f.kp.new a h h' fun z => q z.wipe, fun a h => (f.kp.own a (z2 a h)).imp (fun z => z.wipe) id, f.kp.there⟩, f.w, fun z => f.no (z2 _ z), f.nk, gs, ps, o1, o2, hl o3⟩ (k1.fresh hD)
end
section
variable {X : Cx} {b : Bool} {kx tg it : Expr} {ifs : List Expr} {scope : Scope} {own : List (Str × Nat)} {vs : List Nat} {pos py : Pos} {g : TG} {asg : D → S → Option S} {mi : M (List D)} {c : M Bool} {mk : M D}
theorem h_hc (hu : X.A.units + 1 < cLine) (pw : PwX X) (hvs : own.map (fun x => x.2) = vs) (hc : X.calm = true) (hN : X.N.Nodup) (hi : IW b X tg it mi) (ok : BlkOk X.N X.env.scope scope own) (hg : Blks X scope fun Y => PG Y tg g) (hf : TGx b X.K X.mg [] g asg) (hw : TGw vs g) (ht : Blks X scope fun Y => PTs Y ifs (tB X.K X.mg c))
    (hk : Blks X scope fun Y => PE Y kx (tD X.K X.mg mk)) (hs : ∀ x, foldedSetIterable it X.env x = pure x := by intro _; rfl) :
    PE X (.DictComp kx (.List [] py) [⟨tg, it, ifs, 0⟩] scope pos) (tHD X.K X.mg (hcM mi vs asg c mk)) := by
  subst hvs
  exact PE.imp (pe_xdc hu pw hc hN hi ok hg ht hk (fun _ _ _ _ _ => o_lst la_nil) hs) fun σ H Q h => t_hc hf hw h
end
/-! what fills it -/
abbrev MH := S × KL → Option (S × KL)
def tH (K : PySem.W.Frag) (mg : Str → Option Value) (i : Nat) (m : MH) : TS := fun D σ H => ∃ a s0 σ0 H0 W0 s W kvs s' kvs', HD K mg a s0 σ0 H0 W0 s σ H W kvs ∧ H0 a = none ∧ σ[i]? = some (some (.ref a)) ∧ m (s, kvs) = some (s', kvs') ∧
  ∀ σ' H' W', HD K mg a s0 σ0 H0 W0 s' σ' H' W' kvs' → Le W W' → σ'[i]? = some (some (.ref a)) → D.nx σ' H'
def seqH (m n : MH) : MH := fun p => (m p).bind n
def loopH (asg : D → S → Option S) (m : MH) : List D → MH
  | [] => fun p => some p
  | d :: ds => fun p => (asg d p.1).bind fun s1 => (m (s1, p.2)).bind (loopH asg m ds)
def forH (mi : M (List D)) (asg : D → S → Option S) (m : MH) : MH := fun p => (mi p.1).bind fun q => loopH asg m q.1 (q.2, p.2)
def getL (kvs : KL) (k : List Key) : Option (List D) := (kvs.find? fun q => decide (q.1 = k)).map (·.2)
def setL (kvs : KL) (k : List Key) (ds : List D) : KL := kvs.map fun q => if q.1 = k then (q.1, ds) else q
/-- x[k].append(v) -/
def appH (mk mv : M D) : MH := fun p => (mk p.1).bind fun q => (keyT q.1).bind fun k => (getL p.2 k).bind fun ds => (mv q.2).bind fun r => if ds.length < sizeLine then some (r.2, setL p.2 k (ds ++ [r.1])) else none
section
variable {X : Cx} {i : Nat} {st : Stmt} {sts : List Stmt} {m ms : MH}
theorem hh_nil : PSs X [] (tH X.K X.mg i fun p => some p) := PSs.imp pss_nil fun D σ H ⟨a, s0, σ0, H0, W0, s, W, kvs, s', kvs', f, h0, hi, em, q⟩ => by
  cases em
  exact q σ H W f (Le.refl _) hi
theorem hh_cons (h : PS X st (tH X.K X.mg i m)) (hs : PSs X sts (tH X.K X.mg i ms)) : PSs X (st :: sts) (tH X.K X.mg i (seqH m ms)) := PSs.imp (pss_cons h hs) fun D σ H ⟨a, s0, σ0, H0, W0, s, W, kvs, s', kvs', f, h0, hi, em, q⟩ => by
  simp only [seqH, Option.bind_eq_some_iff] at em
  obtain ⟨⟨s1, k1⟩, e1, e2⟩ := em
  exact ⟨a, s0, σ0, H0, W0, s, W, kvs, s1, k1, f, h0, hi, e1, fun σ1 H1 W1 f1 l1 hi1 => ⟨a, s0, σ0, H0, W0, s1, W1, k1, s', kvs', f1, h0, hi1, e2, fun σ2 H2 W2 f2 l2 => q σ2 H2 W2 f2 (l1.trans l2)⟩⟩
theorem h_for {b : Bool} {tg it : Expr} {pos : Pos} {g : TG} {asg : D → S → Option S} {mi : M (List D)} (hi : IW b X tg it mi) (hg : PG X tg g) (hf : TGx b X.K X.mg [i] g asg) (hb : PSs X sts (tH X.K X.mg i m)) (hc : X.calm = true) (hp : PassesOwn (model X.prog X.w) X.A X.env X.xe)
    (hfs : ∀ x, foldedSetIterable it X.env x = pure x := by intro _; rfl) : PS X (.For tg it sts [] pos) (tH X.K X.mg i (forH mi asg m)) := PS.imp (ps_for hp hc hi hg hb hfs) fun D σ H ⟨a, s0, σ0, H0, W0, s, W, kvs, s', kvs', f, h0, hi, em, q⟩ => by
  simp only [forH, Option.bind_eq_some_iff] at em
  obtain ⟨⟨ds, s1⟩, e1, em⟩ := em
  refine ⟨s, W, ds, s1, f.st, e1, fun J H1 W1 st1 k1 io => ?_⟩
  have f1 := f.step st1 k1
  refine ⟨fun j n σ' H' => (∃ s2 W2 kv2, HD X.K X.mg a s0 σ0 H0 W0 s2 σ' H' W2 kv2 ∧ Le W1 W2 ∧ σ'[i]? = some (some (.ref a)) ∧ loopH asg m (ds.drop j) (s2, kv2) = some (s', kvs')) ∧ n + j = ds.length, ⟨ds.length, ⟨s1, W1, kvs, f1, Le.refl _, hi, em⟩, rfl⟩, ?_⟩
  rintro j n σ2 H2 ⟨⟨s2, W2, kv2, f2, l2, hi2, em⟩, hn⟩
  by_cases hj : j < ds.length
  · refine .inr ⟨io.go j H2 (l2.trans f2.st.le) hj, fun σ' H' => ∃ s2 W2 kv2, HD X.K X.mg a s0 σ0 H0 W0 s2 σ' H' W2 kv2 ∧ Le W1 W2 ∧ σ'[i]? = some (some (.ref a)) ∧ loopH asg m (ds.drop (j + 1)) (s2, kv2) = some (s', kvs'), fun σ' H' h => ⟨n - 1, by omega, h, by omega⟩, ?_⟩
    intro x H3 y
    rw [List.drop_eq_getElem_cons hj] at em
    simp only [loopH, Option.bind_eq_some_iff] at em
    obtain ⟨s3, a1, ⟨s4, kv4⟩, a2, em⟩ := em
    refine f2.item io l2 y (List.getElem?_eq_getElem hj) hf a1 fun σ3 H4 W3 l3 f3 p3 => ?_
    have hi3 : σ3[i]? = some (some (.ref a)) := by rw [p3 i (by simp)]; exact hi2
    refine ⟨a, s0, σ0, H0, W0, s3, W3, kv2, s4, kv4, f3, h0, hi3, a2, fun σ5 H5 W5 f5 l5 hi5 => ⟨s4, W5, kv4, f5, (l2.trans l3).trans l5, hi5, em⟩⟩
  · rw [List.drop_eq_nil_of_le (by omega)] at em
    cases em
    exact .inl ⟨io.stop j H2 (l2.trans f2.st.le) (by omega), q σ2 H2 W2 f2 (k1.le.trans l2) hi2⟩
theorem HL.find {K : PySem.W.Frag} {mg : Str → Option Value} {s : S} {σ : L2.St} {H W H0 : Hp} {gs : List Ent} {ps : List Addr} {kvs : KL} {k : List Key} {ds : List D} (h : HL K mg s σ H W H0 gs ps kvs) (e : getL kvs k = some ds) : ∃ p vs, p ∈ ps ∧ valX gs k = some (.ref p) ∧ H p = some (.lst vs) ∧ DRs K mg W vs ds ∧ W p = none ∧ ¬ Own s σ p ∧ H0 p = none := by
  induction h with
  | nil => cases e
  | @cons k' b p vs ds' gs ps kvs h1 h2 h3 h4 h5 h6 _ ih =>
    by_cases z : k' = k
    · have e1 : ds' = ds := by simpa [getL, z] using e
      subst e1
      exact ⟨p, vs, by simp, by simp [valX, z], h5, h6, h2, h3, h4⟩
    · obtain ⟨p1, vs1, a1, a2, a3⟩ := ih (by simpa [getL, z] using e)
      exact ⟨p1, vs1, by simp [a1], by simpa [valX, z] using a2, a3⟩
theorem setL_none {kvs : KL} {k : List Key} {ds : List D} (h : k ∉ kvs.map (·.1)) : setL kvs k ds = kvs := by
  unfold setL
  conv => rhs; rw [← List.map_id kvs]
  refine List.map_congr_left fun q hq => ?_
  rw [if_neg fun e => h (List.mem_map.mpr ⟨q, hq, e⟩)]; rfl
theorem setL_fst {kvs : KL} {k : List Key} {ds : List D} : (setL kvs k ds).map (·.1) = kvs.map (·.1) := by
  unfold setL
  rw [List.map_map]
  refine List.map_congr_left fun q _ => ?_
  show (if q.1 = k then (q.1, ds) else q).1 = q.1
  split <;> rfl
/-- one of its lists changes -/
theorem HL.set {K : PySem.W.Frag} {mg : Str → Option Value} {s : S} {σ : L2.St} {H W H0 : Hp} {gs : List Ent} {ps : List Addr} {kvs : KL} {k : List Key} {p : Addr} {vs : List V} {ds : List D} (h : HL K mg s σ H W H0 gs ps kvs) (nd : ps.Nodup) (nk : (kvs.map (·.1)).Nodup) (e : valX gs k = some (.ref p)) (r : DRs K mg W vs ds) : HL K mg s σ (upd H p (.lst vs)) W H0 gs ps (setL kvs k ds) := by
  induction h with
  | nil => cases e
  | @cons k' b p' vs' ds' gs ps kvs h1 h2 h3 h4 h5 h6 hh ih =>
    rw [List.nodup_cons] at nd
    rw [List.map_cons, List.nodup_cons] at nk
    by_cases z : k' = k
    · have e1 : p' = p := by simpa [valX, z] using e
      subst e1 z
      have : setL ((k', ds') :: kvs) k' ds = (k', ds) :: kvs := by
        show (if k' = k' then (k', ds) else (k', ds')) :: setL kvs k' ds = _
        rw [if_pos rfl, setL_none nk.1]
      rw [this]
      exact .cons h1 h2 h3 h4 upd_same r (hh.other nd.1)
    · have e2 : valX gs k = some (.ref p) := by simpa [valX, z] using e
      have hp : p ∈ ps := by
        clear ih nd nk h1 h2 h3 h4 h5 h6 e
        induction hh with
        | nil => cases e2
        | @cons k'' b'' p'' _ _ gs ps kvs _ _ _ _ _ _ _ ih2 =>
          by_cases y : k'' = k
          · have : p'' = p := by simpa [valX, y] using e2
            simp [this]
          · exact List.mem_cons_of_mem _ (ih2 (by simpa [valX, y] using e2))
      have ne : p' ≠ p := fun y => nd.1 (y ▸ hp)
      have : setL ((k', ds') :: kvs) k ds = (k', ds') :: setL kvs k ds := by
        show (if k' = k then (k', ds) else (k', ds')) :: setL kvs k ds = _
        rw [if_neg z]
      rw [this]
      exact .cons h1 h2 h3 h4 (by rw [upd_ne ne]; exact h5) h6 (ih nd.2 nk.2 e2)
theorem h_app {x : Str} {p2 p3 apos cpos pos : Pos} {ek ev : Expr} {mk mv : M D} (hu : X.A.units + 1 < cLine) (pw : PwX X) (hn : PE X (.Name x p2) (tVar i)) (hk : DE X ek mk) (hv : DE X ev mv) (hsl : NoSl ek := by exact fun _ _ => rfl)
    (h1 : attributeBase (.Subscript (.Name x p2) ek p3) "append" X.env (eval (.Subscript (.Name x p2) ek p3) X.env) = eval (.Subscript (.Name x p2) ek p3) X.env := by rfl)
    (h2 : ((((backTo cpos (starEach [ev] X.env)).all fun x => !x.1) && (backToKw cpos (keywordEach [] X.env)).all fun x => x.1.isSome) && decide (([ev].length + ([] : List Keyword).length + if ([] : List Keyword).isEmpty = true then 0 else 1) < 30)) = true := by rfl) (h3 : (apos.endLine == cpos.line) = true := by rfl)
    (h4 : starEach [ev] X.env = (false, eval ev X.env) :: starEach [] X.env := by rfl) (h5 : (backTo cpos (starEach [] X.env)).any (fun x => x.1) = false := by rfl)
    (h6 : swapsWith (.Call (.Attribute (.Subscript (.Name x p2) ek p3) "append" apos) [ev] [] cpos) none pos.line X.env = pure false := by rfl) :
    PS X (.Expr (.Call (.Attribute (.Subscript (.Name x p2) ek p3) "append" apos) [ev] [] cpos) pos) (tH X.K X.mg i (appH mk mv)) := PS.imp (ps_expr (pe_bm PySem.F.plainAttrs_list PySem.F.slot_list_append PySem.F.type_list_append mt_append (pe_xget hu pw hn hk hsl) (pa_cons hv pa_nil h4) h1 h2 h3 h4 h5) h6) fun D σ H ⟨a, s0, σ0, H0, W0, s, W, kvs, s', kvs', f, h0, hi, em, q⟩ => by
  simp only [appH, Option.bind_eq_some_iff] at em
  obtain ⟨⟨y, s1⟩, e1, k, e2, ds, e3, ⟨d, s2⟩, e4, em⟩ := em
  split at em
  case isFalse => cases em
  rename_i hz
  cases em
  refine ⟨_, hi, s, W, y, s1, f.st, e1, fun u H1 W1 st1 k1 r1 => ?_⟩
  have f1 := f.step st1 k1
  obtain ⟨gs, ps, o1, o2, o3⟩ := f1.ob
  obtain ⟨b, rfl, sb⟩ := keyT_v r1 e2
  obtain ⟨p, vs, hp, hv, hH, rr, wp, np, hp0⟩ := o3.find e3
  refine ⟨a, .ref p, rfl, ⟨gs, k, b, o1, fun z hz => st_le st1.le (o3.keys z hz), rfl, st_le st1.le sb, hv.symm⟩, .inl ⟨rfl, vs, .inl (.inl hH)⟩, s1, W1, d, s2, st1, e4, fun v H2 W2 st2 k2 r2 => ?_⟩
  have f2 := f1.step st2 k2
  have o6 := o3.step st2 k2
  have hH2 : H2 p = some (.lst vs) := k2.keep _ _ hH np
  have ap : a ≠ p := fun z => by rw [← z, o1] at hH; cases hH
  refine ⟨p, vs, v, rfl, rfl, hH2, by rw [rr.len]; exact hz, q σ _ W2 ⟨st2.mut (k2.new p wp (by rw [hH]; simp) np) (fun z => (k2.own p z).elim np fun z => by rw [hH] at z; cases z), kp_own f2.kp hp0, f2.w, f2.no, by rw [setL_fst]; exact f2.nk, gs, ps, ?_, o2, o6.set o2 f2.nk hv ((rr.le k2.le).app (.cons r2 .nil))⟩ (k1.le.trans k2.le) hi⟩
  rw [upd_ne ap]; exact k2.keep _ _ o1 f1.no
end
/-! it is shown, and handed back -/
section
variable {K : PySem.W.Frag} {mg : Str → Option Value} {a : Addr} {s0 s : S} {σ0 σ : L2.St} {H0 W0 H W : Hp} {kvs : KL} {gs : List Ent} {ps : List Addr}
theorem St.see {p : Addr} {u : HO} (st : St K mg s σ H W) (k : Kp s0 σ0 H0 W0 s σ H W) (hu : H p = some u) (w : W p = none) (no : ¬ Own s σ p) (h0 : H0 p = none) : St K mg s σ H (upd W p u) ∧ Kp s0 σ0 H0 W0 s σ H (upd W p u) := by
  refine ⟨⟨fun x y z => ?_, st.len, fun i d ei => ?_, fun i o' ei => ?_, st.inj⟩, ⟨k.le.trans (Le.upd w), k.keep, fun x y z n => ?_, k.own, k.there⟩⟩
  · by_cases h : x = p
    · subst h; rw [upd_same] at z; rw [← z]; exact hu
    · rw [upd_ne h] at z; exact st.le x y z
  · obtain ⟨v, g, r⟩ := st.dat i d ei
    exact ⟨v, g, r.le (Le.upd w)⟩
  · obtain ⟨x, g, w', r⟩ := st.own i o' ei
    have ne : x ≠ p := fun z => no ⟨i, o', ei, z ▸ g⟩
    refine ⟨x, g, by rw [upd_ne ne]; exact w', ?_⟩
    cases o' with
    | lst ds => obtain ⟨vs, r1, r2⟩ := r; exact ⟨vs, r1, r2.le (Le.upd w)⟩
    | obj cc fs => obtain ⟨C, dx, gs, r0, r1, r2⟩ := r; exact ⟨C, dx, gs, r0, r1, r2.le (Le.upd w)⟩
    | dic kvs => obtain ⟨gs, r1, r2⟩ := r; exact ⟨gs, r1, r2.le (Le.upd w)⟩
    | dit kvs => obtain ⟨gs, r1, r2⟩ := r; exact ⟨gs, r1, r2.le (Le.upd w)⟩
  · have ne : x ≠ p := fun h => z (h ▸ h0)
    rw [upd_ne ne]; exact k.new x y z n
def klD (kvs : KL) : List (List Key × D) := kvs.map fun e => (e.1, .lst e.2)
theorem HL.see (h : HL K mg s σ H W H0 gs ps kvs) : ∀ W1, Le W W1 → St K mg s σ H W1 → Kp s0 σ0 H0 W0 s σ H W1 → (∀ p ∈ ps, W1 p = none) → ps.Nodup → ∃ W3, Le W1 W3 ∧ St K mg s σ H W3 ∧ Kp s0 σ0 H0 W0 s σ H W3 ∧ DTs K mg W3 gs (klD kvs) ∧ ∀ x, x ∉ ps → W3 x = W1 x := by
  induction h with
  | nil => intro W1 l st k _ _; exact ⟨W1, Le.refl _, st, k, .nil, fun _ _ => rfl⟩
  | @cons k' b p vs ds gs ps kvs h1 h2 h3 h4 h5 h6 _ ih =>
    intro W1 l st k hn nd
    rw [List.nodup_cons] at nd
    obtain ⟨g1, g2⟩ := st.see k h5 (hn p (by simp)) h3 h4
    obtain ⟨W3, l3, st3, k3, r3, e3⟩ := ih _ (l.trans (Le.upd (hn p (by simp)))) g1 g2 (fun q hq => by
      have nq : q ≠ p := fun z => nd.1 (by rw [← z]; exact hq)
      rw [upd_ne nq]; exact hn q (by simp [hq])) nd.2
    refine ⟨W3, (Le.upd (hn p (by simp))).trans l3, st3, k3, ?_, fun x hx => ?_⟩
    · have lw : Le W W3 := l.trans ((Le.upd (hn p (by simp))).trans l3)
      exact .cons (sf_le lw h1) (.lst (l3 _ _ upd_same) (h6.le lw)) r3
    · have n1 : x ≠ p := fun z => hx (by simp [z])
      rw [e3 x fun z => hx (by simp [z]), upd_ne n1]
theorem HL.unseen (h : HL K mg s σ H W H0 gs ps kvs) : ∀ p ∈ ps, W p = none := by
  induction h with
  | nil => intro p hp; cases hp
  | cons h1 h2 h3 h4 h5 h6 _ ih =>
    intro p hp
    rcases List.mem_cons.mp hp with e | hp
    · subst e; exact h2
    · exact ih p hp
theorem HD.see (f : HD K mg a s0 σ0 H0 W0 s σ H W kvs) (h0 : H0 a = none) : ∃ W3, St K mg s σ H W3 ∧ Kp s0 σ0 H0 W0 s σ H W3 ∧ DR K mg W3 (.ref a) (.dit (klD kvs)) := by
  obtain ⟨gs, ps, o1, o2, o3⟩ := f.ob
  obtain ⟨W3, l3, st3, k3, r3, e3⟩ := o3.see W (Le.refl _) f.st f.kp o3.unseen o2
  have na : a ∉ ps := fun z => by obtain ⟨vs, e⟩ := o3.at a z; rw [o1] at e; cases e
  have wa : W3 a = none := by rw [e3 a na]; exact f.w
  obtain ⟨g1, g2⟩ := st3.see k3 o1 wa f.no h0
  exact ⟨_, g1, g2, .dit upd_same (r3.le (Le.upd wa))⟩
theorem St.setN {i : Nat} {v : Option V} (st : St K mg s σ H W) (e : s[i]? = some none) : St K mg s (σ.set i v) H W where
  le := st.le
  len := by rw [List.length_set]; exact st.len
  dat := fun j d h => by
    have ne : i ≠ j := fun z => by subst z; rw [e] at h; cases h
    rw [List.getElem?_set_ne ne]; exact st.dat j d h
  own := fun j o h => by
    have ne : i ≠ j := fun z => by subst z; rw [e] at h; cases h
    rw [List.getElem?_set_ne ne]; exact st.own j o h
  inj := fun j k o u x h1 h2 e1 e2 => by
    have n1 : i ≠ j := fun z => by subst z; rw [e] at h1; cases h1
    have n2 : i ≠ k := fun z => by subst z; rw [e] at h2; cases h2
    rw [List.getElem?_set_ne n1] at e1
    rw [List.getElem?_set_ne n2] at e2
    exact st.inj j k o u x h1 h2 e1 e2
theorem own_setN {i : Nat} {v : Option V} {x : Addr} (e : s[i]? = some none) (h : Own s (σ.set i v) x) : Own s σ x := by
  obtain ⟨j, o, h1, h2⟩ := h
  have ne : i ≠ j := fun z => by subst z; rw [e] at h1; cases h1
  rw [List.getElem?_set_ne ne] at h2
  exact ⟨j, o, h1, h2⟩
theorem HD.setN {i : Nat} {v : Option V} (f : HD K mg a s0 σ0 H0 W0 s σ H W kvs) (e : s[i]? = some none) : HD K mg a s0 σ0 H0 W0 s (σ.set i v) H W kvs := by
  obtain ⟨gs, ps, o1, o2, o3⟩ := f.ob
  have hl : ∀ {gs ps kvs}, HL K mg s σ H W H0 gs ps kvs → HL K mg s (σ.set i v) H W H0 gs ps kvs := fun h => by
    induction h with
    | nil => exact .nil
    | cons h1 h2 h3 h4 h5 h6 _ ih => exact .cons h1 h2 (fun z => h3 (own_setN e z)) h4 h5 h6 ih
  exact ⟨f.st.setN e, ⟨f.kp.le, f.kp.keep, f.kp.new, fun x z => f.kp.own x (own_setN e z), f.kp.there⟩, f.w, fun z => f.no (own_setN e z), f.nk, gs, ps, o1, o2, hl o3⟩
end
def hidM (i : Nat) (m : M KL) (mb : MH) : MS := fun s => (m s).bind fun q => match q.2[i]? with
  | some none => (mb (q.2, q.1)).map fun r => .rd (.dit (klD r.2)) r.1
  | _ => none
section
variable {X : Cx} {i : Nat} {y : Str} {py pos spos : Pos} {kx vx tg it0 : Expr} {ifs : List Expr} {scope : Scope} {own : List (Str × Nat)} {g : TG}
theorem sw_dict {gs : List Comprehension} {l : Nat} {env : Env} (kind : env.scope.kind = .function) (here : env.scope.names.lookup y = some .local) (line : (py.line == pos.line) = true) (free : (scope.names.any fun (n, k) => n == y && (k == .local || k == .cell)) = false) : swapsWith (.DictComp kx vx gs scope pos) (some (.Name y py)) l env = pure true := by
  have e1 : env.kindOf y = some .local := here
  have e2 : env.blockKind = .function := by unfold Env.blockKind; rw [kind]; rfl
  unfold swapsWith
  simp only [e2, e1, free, Expr.pos, line]
  rfl
theorem ps_setXdc {wi : TI} {tt : TT} {tk tv : TE} (hu : X.A.units + 1 < cLine) (pw : PwX X) (hcalm : X.calm = true) (nodup : X.N.Nodup) (named : X.N[i]? = some y) (here : X.env.scope.names.lookup y = some .local) (hsw : swapsWith (.DictComp kx vx [⟨tg, it0, ifs, 0⟩] scope pos) (some (.Name y py)) spos.line X.env = pure true)
    (hi : PI X tg it0 wi) (ok : BlkOk X.N X.env.scope scope own) (hg : Blks X scope fun Y => PG Y tg g) (ht : Blks X scope fun Y => PTs Y ifs tt) (hk : Blks X scope fun Y => PE Y kx tk) (he : Blks X scope fun Y => PE Y vx tv) (hs : ∀ x, foldedSetIterable it0 X.env x = pure x := by intro _; rfl) :
    PS X (.Assign [.Name y py] (.DictComp kx vx [⟨tg, it0, ifs, 0⟩] scope pos) spos) (tAsg (tDcX X.K wi g tt tk tv (own.map (·.2))) (gName i)) := ⟨fun pins s σ H D I h => by
  rw [exec_Assign_Name_used _ _ _ _ hsw]
  refine wpAny_bind (wpAny_standAt (wpAny_bind ?_))
  show wpAny _ X.A (do let _ ← comprehension (.DictComp kx vx [⟨tg, it0, ifs, 0⟩] scope pos) scope X.env (firstIterPos [⟨tg, it0, ifs, 0⟩] pos) newDict false (eval it0 X.env) (some (assign (.Name y py) X.env))) _ _ s
  have h : tDcX X.K wi g tt tk tv (own.map (·.2)) σ H (fun x H1 => gName i x σ H1 D.nx) := h
  refine wpAny_bind (thn (xc_core (Qf := fun _ s' => SP X pins D .next s') hu pw hcalm nodup I hi ok hg ht hk he hs h fun B C s' m H' I' q hn fp => ?_) fun _ s' hq => wpAny_pure (wpAny_pure hq))
  show wpAny _ _ (assign (.Name y py) X.env (.ref B)) _ _ _
  refine wpAny_assign_Name (store_ok2 (v := V.ref B) I' nodup named (.inl here) rfl (fun s2 I2 ⟨a, sb, ha⟩ => ?_) (.inr here))
  obtain ⟨p0, p1, p2, p3, p4, p5⟩ := fp
  have apart : C ≠ a := ha.elim (fun z => by rw [z]; exact p1) fun z e => p4 y a z e.symm
  exact ⟨m, hn.sameBut sb apart, fun h3 sb3 => ⟨_, H', I2.turned (t' := s2.toks) (fun b o hb e => (sb3.2 b hb).trans e) p0 p1 p3 p4 p5, q⟩⟩⟩
theorem h_sethc {b : Bool} {asg : D → S → Option S} {mi : M (List D)} {c : M Bool} {mk : M D} {vs : List Nat} {pl : Pos} (hu : X.A.units + 1 < cLine) (pw : PwX X) (hvs : own.map (fun x => x.2) = vs) (hc : X.calm = true) (hN : X.N.Nodup) (hi : IW b X tg it0 mi) (ok : BlkOk X.N X.env.scope scope own) (hg : Blks X scope fun Y => PG Y tg g) (hf : TGx b X.K X.mg [] g asg) (hw : TGw vs g) (ht : Blks X scope fun Y => PTs Y ifs (tB X.K X.mg c))
    (hk : Blks X scope fun Y => PE Y kx (tD X.K X.mg mk)) (named : X.N[i]? = some y) (here : X.env.scope.names.lookup y = some .local) (hs : ∀ x, foldedSetIterable it0 X.env x = pure x := by intro _; rfl) (hsw : swapsWith (.DictComp kx (.List [] pl) [⟨tg, it0, ifs, 0⟩] scope pos) (some (.Name y py)) spos.line X.env = pure true := by exact sw_dict rfl rfl rfl (by decide +kernel)) :
    PS X (.Assign [.Name y py] (.DictComp kx (.List [] pl) [⟨tg, it0, ifs, 0⟩] scope pos) spos) (tAsg (tHD X.K X.mg (hcM mi vs asg c mk)) (gName i)) := by
  subst hvs
  exact PS.imp (ps_setXdc hu pw hc hN named here hsw hi ok hg ht hk (fun _ _ _ _ _ => o_lst la_nil) hs) fun D σ H h => t_hc hf hw h
end
theorem ss_hid {X : Cx} {i : Nat} {st1 : Stmt} {tg e : Expr} {x : Str} {pos p2 p3 : Pos} {m : M KL} {mb : MH} (ha : PS X (.Assign [tg] e pos) (tAsg (tHD X.K X.mg m) (gName i))) (hb : PS X st1 (tH X.K X.mg i mb)) (hr : PE X (.Name x p2) (tVar i)) : SEs X [] [.Assign [tg] e pos, st1, .Return (some (.Name x p2)) p3] (hidM i m mb) := PSs.imp (pss_cons ha (pss_cons hb (pss_cons (ps_ret hr) pss_nil))) fun D σ H ⟨sd, W, out, stt, em, q⟩ => by
  simp only [hidM, Option.bind_eq_some_iff] at em
  obtain ⟨⟨kvs, s1⟩, e1, em⟩ := em
  split at em
  case h_2 => cases em
  rename_i hs
  have hs : s1[i]? = some none := hs
  simp only [Option.map_eq_some_iff] at em
  obtain ⟨⟨s2, kv2⟩, e2, rfl⟩ := em
  refine ⟨sd, W, kvs, s1, stt, e1, fun a H1 W1 f ha => ?_⟩
  have li : i < σ.length := by rw [← f.st.len]; exact (List.getElem?_eq_some_iff.mp hs).1
  refine ⟨a, sd, σ, H, W, s1, W1, kvs, s2, kv2, f.setN hs, ha, List.getElem?_set_self li, e2, fun σ2 H2 W2 f2 l2 hi2 => ⟨_, hi2, ?_⟩⟩
  obtain ⟨W3, g1, g2, g3⟩ := f2.see ha
  exact q (.ref a) σ2 H2 W3 g1 g2 (fun _ hj => by cases hj) g3
end Fli
set_option Elab.async false
set_option linter.all false
set_option maxRecDepth 100000
set_option maxHeartbeats 4000000
namespace Fli
open PySem PySem.Spec PyProof.Rows L2
variable [HW]
/-! x, y = objects of their own -/
def parOO (i j : Nat) (m1 m2 : M O) : MS := fun s => (m1 s).bind fun q => (m2 q.2).bind fun r => some (.nx ((r.2.set i (some (.own q.1))).set j (some (.own r.1))))
section
variable {X : Cx} {pr : List Nat}
theorem OR.step {K : PySem.W.Frag} {mg : Str → Option Value} {s s' : S} {σ σ' : L2.St} {H H' W W' : Hp} {p : Addr} {o : O} (r : OR K mg H W p o) (n : ¬ Own s σ p) (k : Kp s σ H W s' σ' H' W') : OR K mg H' W' p o ∧ ¬ Own s' σ' p ∧ H p ≠ none := by
  obtain ⟨w, r⟩ := r
  have go : ∀ u, H p = some u → H' p = some u ∧ W' p = none ∧ ¬ Own s' σ' p ∧ H p ≠ none := fun u hu => ⟨k.keep p u hu n, k.new p w (by rw [hu]; simp) n, (fun z => (k.own p z).elim n (fun z => (by rw [hu] at z; cases z))), by rw [hu]; simp⟩
  cases o with
  | lst ds => obtain ⟨vs, r1, r2⟩ := r; obtain ⟨a, b, c, d⟩ := go _ r1; exact ⟨⟨b, vs, a, r2.le k.le⟩, c, d⟩
  | obj cc fs => obtain ⟨C, dx, gs, r0, r1, r2⟩ := r; obtain ⟨a, b, c, d⟩ := go _ r1; exact ⟨⟨b, C, dx, gs, r0, a, r2.le k.le⟩, c, d⟩
  | dic kvs => obtain ⟨gs, r1, r2⟩ := r; obtain ⟨a, b, c, d⟩ := go _ r1; exact ⟨⟨b, gs, a, r2.le k.le⟩, c, d⟩
  | dit kvs => obtain ⟨gs, r1, r2⟩ := r; obtain ⟨a, b, c, d⟩ := go _ r1; exact ⟨⟨b, gs, a, r2.le k.le⟩, c, d⟩
theorem s_parOO {i j : Nat} {x y : Str} {a b : Expr} {m1 m2 : M O} {pos px py pt : Pos} {kt k2 pt2} (hi : X.N[i]? = some x) (hj : X.N[j]? = some y) (hij : i ≠ j) (hx : X.env.scope.names.lookup x = some .local) (hy : X.env.scope.names.lookup y = some .local) (ha : OE X a m1) (hb : OE X b m2) (h1 : i ∉ pr) (h2 : j ∉ pr) (hc : X.calm = true) (hN : X.N.Nodup)
    (he1 : starEach [a, b] X.env = (false, eval a X.env) :: starEach [b] X.env := by rfl) (he2 : starEach [b] X.env = (false, eval b X.env) :: starEach [] X.env := by rfl)
    (hw : swappedStores [.Tuple [.Name x px, .Name y py] kt pt] (.Tuple [a, b] k2 pt2) X.env = pure (some [x, y]) := by rfl)
    (hs : swapsWithSole [.Tuple [.Name x px, .Name y py] kt pt] (.Tuple [a, b] k2 pt2) pos.line X.env = pure false := by rfl) :
    SE X pr (.Assign [.Tuple [.Name x px, .Name y py] kt pt] (.Tuple [a, b] k2 pt2) pos) (parOO i j m1 m2) := PS.imp (ps_par hc hN hi hj hij hx hy (pa_cons ha (pa_cons hb pa_nil he2) he1) hw hs) fun D σ H ⟨sd, W, out, st, em, q⟩ => by
  simp only [parOO, Option.bind_eq_some_iff] at em
  obtain ⟨⟨o1, s1⟩, e1, ⟨o2, s2⟩, e2, em⟩ := em
  cases em
  refine ⟨sd, W, o1, s1, st, e1, fun p1 H1 W1 st1 k1 r1 n1 f1 => ⟨s1, W1, o2, s2, st1, e2, fun p2 H2 W2 st2 k2 r2 n2 f2 => ?_⟩⟩
  obtain ⟨r1', n1', t1⟩ := r1.step n1 k2
  obtain ⟨g1, g2⟩ := st2.setO r1' n1' i
  have n2' : ¬ Own (s2.set i (some (.own o1))) (σ.set i (some (.ref p1))) p2 := fun z => by
    rcases g2 p2 z with z | z
    · exact n2 z
    · exact t1 (by rw [← z]; exact f2)
  obtain ⟨g3, g4⟩ := g1.setO r2 n2' j
  have kk := k1.trans k2
  refine ⟨_, _, rfl, q _ H2 W2 g3 ⟨kk.le, kk.keep, kk.new, fun z hz => ?_, kk.there⟩ ((pr_set h1).trans (pr_set h2))⟩
  rcases g4 z hz with y | y
  · rcases g2 z y with y | y
    · exact kk.own z y
    · exact .inr (by rw [y]; exact f1)
  · exact .inr (by rw [y]; exact k1.fresh f2)
end
end Fli
set_option Elab.async false
set_option linter.all false
set_option maxRecDepth 100000
set_option maxHeartbeats 4000000
namespace Fli
open PySem PySem.Spec PyProof.Rows L2
variable [HW]
/-! a list several times -/
def repL : D → D → Option D
  | .lst ds, .int k => if -(2 ^ 63) ≤ k ∧ k < 2 ^ 63 ∧ ds.length * k.toNat ≤ sizeLine then some (.lst (List.replicate k.toNat ds).flatten) else none
  | _, _ => none
section
variable {K : PySem.W.Frag} {mg : Str → Option Value} {W : Hp}
theorem drs_rep {vs : List V} {ds : List D} (r : DRs K mg W vs ds) : ∀ n : Nat, DRs K mg W (List.replicate n vs).flatten (List.replicate n ds).flatten
  | 0 => .nil
  | n + 1 => by
    rw [List.replicate_succ, List.replicate_succ, List.flatten_cons, List.flatten_cons]
    exact r.app (drs_rep r n)
theorem rd_rep : R2D K mg rRep repL := by
  intro x y z vx vy sd σ H W st hx hy hf Q q
  unfold repL at hf
  split at hf
  · split at hf
    · rename_i h
      cases hf
      cases hx with
      | lst sx rx =>
        cases hy
        have l1 := rx.len
        refine ⟨_, _, _, rfl, rfl, st.le _ _ sx, h.1, h.2.1, by rw [l1]; exact h.2.2, fun p hp => ?_⟩
        obtain ⟨g1, g2⟩ := st.newV hp (.lst _)
        exact q _ _ _ g1 g2 (.lst upd_same ((drs_rep rx _).le (Le.upd (st.free hp))))
    · cases hf
  · cases hf
end
end Fli
set_option Elab.async false
set_option linter.all false
set_option maxRecDepth 100000
set_option maxHeartbeats 4000000
namespace Fli
open PySem PySem.Spec PyProof.Rows L2
variable [HW]
theorem _root_.L2.Room.un65 {k : Nat} {A : Around} (hr : Room k A) : A.units + 65 < cLine := by have := hr.un; omega
/-! in a list of data of any depth -/
def inDp (neg : Bool) (x y : D) : Option D := (toPy x).bind fun a => (toPy y).bind fun b => match b with
  | .list bs => if SeqAt.shaped a = true ∧ SeqAt.shaped (.list bs) = true then some (.bl (neg ^^ bs.any fun z => PyData.eqv z a)) else none
  | _ => none
section
variable {K : PySem.W.Frag} {mg : Str → Option Value}
theorem rd_inDp : R2D K mg (L2.rInD K) (inDp false) := R2D.of fun x y z vx vy H W le hx hy hf Q q => by
  simp only [inDp, Option.bind_eq_some_iff] at hf
  obtain ⟨a, ha, b, hb, hf⟩ := hf
  split at hf
  · split at hf
    · rename_i h
      cases hf
      rw [Bool.false_xor] at q
      exact ⟨a, _, toDp le hx ha, toDp le hy hb, h.1, h.2, q _ (.bl _)⟩
    · cases hf
  · cases hf
theorem rd_ninDp : R2D K mg (L2.rNotInD K) (inDp true) := R2D.of fun x y z vx vy H W le hx hy hf Q q => by
  simp only [inDp, Option.bind_eq_some_iff] at hf
  obtain ⟨a, ha, b, hb, hf⟩ := hf
  split at hf
  · split at hf
    · rename_i h
      cases hf
      rw [Bool.true_xor] at q
      exact ⟨a, _, toDp le hx ha, toDp le hy hb, h.1, h.2, q _ (.bl _)⟩
    · cases hf
  · cases hf
end
end Fli
set_option Elab.async false
set_option linter.all false
set_option maxRecDepth 100000
set_option maxHeartbeats 4000000
namespace Fli
open PySem PySem.Spec PyProof.Rows L2
variable [HW]
/-! one for over any items -/
def lcG (mi : M (List D)) (vs : List Nat) (asg : D → S → Option S) (c : M Bool) (elt : M D) : M O := fun s => (mi s).bind fun q => compM vs asg c elt q.1 q.2
section
variable {K : PySem.W.Frag} {mg : Str → Option Value} {b : Bool} {g : TG} {asg : D → S → Option S} {mi : M (List D)} {c : M Bool} {el : M D} {vs : List Nat}
theorem t_lcG (hf : TGx b K mg [] g asg) (hw : TGw vs g) {σ : L2.St} {H : Hp} {Q : VK} (h : tO K mg (lcG mi vs asg c el) σ H Q) :
    tLc (tI b K mg mi) g (tB K mg c) (tD K mg el) vs σ H Q := by
  obtain ⟨sd, W, o, sd', st, em, q⟩ := h
  simp only [lcG, Option.bind_eq_some_iff] at em
  obtain ⟨⟨ds, s1⟩, e1, em⟩ := em
  dsimp only at em
  obtain ⟨no, r, e2, rfl, rfl⟩ := compM_some em
  refine ⟨sd, W, ds, s1, st, e1, fun J H1 W1 st1 k1 io Dl hD => ?_⟩
  let In (j : Nat) (H' : Hp) : Prop := ∃ s' W' acc, Fil K mg (lstR K mg acc) Dl (wipeS vs s1) (L2.wipe σ vs) H1 W1 s' (L2.wipe σ vs) H' W' ∧ compL vs asg c el (ds.drop j) acc s' = some r
  refine ⟨fun i m H' => In i H' ∧ m + i = ds.length, ⟨ds.length, ⟨wipeS vs s1, W1, [], ?_, e2⟩, rfl⟩, ?_⟩
  · obtain ⟨z1, z2⟩ := (st1.wipe (vs := vs)).newO hD (.lst [])
    exact ⟨z1, z2, st1.free hD, fun z => st1.notOwn hD z.wipe, _, upd_same, [], rfl, .nil⟩
  rintro i m H' ⟨⟨s', W', acc, f, em⟩, hm⟩
  have lW : Le W1 W' := f.kp.le
  by_cases hi : i < ds.length
  · refine .inr ⟨io.go i H' (lW.trans f.st.le) hi, In (i + 1), fun H2 n => ⟨m - 1, by omega, n, by omega⟩, ?_⟩
    intro x H2 y
    rw [List.drop_eq_getElem_cons hi] at em
    simp only [compL, Option.bind_eq_some_iff] at em
    obtain ⟨s2, a1, ⟨k, s3⟩, a2, em⟩ := em
    have ww : L2.wipe (L2.wipe σ vs) vs = L2.wipe σ vs := wipe_wipe
    have key := hw x (L2.wipe σ vs) H2 (fun σ2 H3 => tB K mg c σ2 H3 fun b H4 => if b = true then tD K mg el σ2 H4 fun y H5 => ∃ acc, H5 Dl = some (.lst acc) ∧ acc.length < sizeLine ∧ In (i + 1) (upd H5 Dl (.lst (acc ++ [y]))) else In (i + 1) H4)
      (f.item lstR_mono io lW y (List.getElem?_eq_getElem hi) hf a1 fun σ2 H3 W3 l3 f2 _ hz => ?_)
    · rw [ww] at key; exact key
    rw [ww] at hz
    refine ⟨s2, W3, k, s3, f2.st, a2, fun H4 W4 st4 k4 => ?_⟩
    have f4 := f2.step lstR_mono st4 k4
    cases k with
    | false => exact iteF ⟨wipeS vs s3, W4, acc, f4.wiped hz, em⟩
    | true =>
      refine iteT ?_
      simp only [Option.bind_eq_some_iff] at em
      obtain ⟨⟨y8, s5⟩, a3, em⟩ := em
      split at em
      case isFalse => cases em
      rename_i hsz
      refine ⟨s3, W4, y8, s5, f4.st, a3, fun v H5 W5 st5 k5 r5 => ?_⟩
      have f5 := f4.step lstR_mono st5 k5
      obtain ⟨u, hu, av, rfl, ra⟩ := f5.ob
      exact ⟨av, hu, by rw [ra.len]; exact hsz, wipeS vs s5, W5, acc ++ [y8], (f5.put hD ⟨av ++ [v], rfl, ra.app (.cons r5 .nil)⟩).wiped hz, em⟩
  · rw [List.drop_eq_nil_of_le (by omega)] at em
    cases em
    refine .inl ⟨io.stop i H' (lW.trans f.st.le) (by omega), ?_⟩
    obtain ⟨u, hu, av, rfl, ra⟩ := f.ob
    obtain ⟨z1, z2⟩ := f.st.rest st1 f.kp.le no
    exact q Dl H' W' z1 (k1.trans ⟨f.kp.le, fun a o h q => f.kp.keep a o h fun z => q z.wipe, fun a h h' q => f.kp.new a h h' fun z => q z.wipe, fun a h => (f.kp.own a (z2 a h)).imp (fun z => z.wipe) id, f.kp.there⟩) ⟨f.w, av, hu, ra⟩ (fun z => f.no (z2 _ z)) (k1.fresh hD)
end
section
variable {X : Cx} {b : Bool} {elt tg it : Expr} {ifs : List Expr} {scope : Scope} {own : List (Str × Nat)} {vs : List Nat} {pos spos py : Pos} {g : TG} {asg : D → S → Option S} {mi : M (List D)} {c : M Bool} {el : M D}
theorem o_lcG (hvs : own.map (fun x => x.2) = vs) (hc : X.calm = true) (hN : X.N.Nodup) (hi : IW b X tg it mi) (ok : BlkOk X.N X.env.scope scope own)
    (hg : Blks X scope fun Y => PG Y tg g) (hf : TGx b X.K X.mg [] g asg) (hw : TGw vs g) (ht : Blks X scope fun Y => PTs Y ifs (tB X.K X.mg c))
    (he : Blks X scope fun Y => PE Y elt (tD X.K X.mg el)) (hs : ∀ x, foldedSetIterable it X.env x = pure x := by intro _; rfl) :
    OE X (.ListComp elt [⟨tg, it, ifs, 0⟩] scope pos) (lcG mi vs asg c el) := by
  subst hvs
  exact PE.imp (pe_lc hc hN hi ok hg ht he hs) fun σ H Q h => t_lcG hf hw h
end
end Fli
set_option Elab.async false
set_option linter.all false
set_option maxRecDepth 100000
set_option maxHeartbeats 4000000
namespace Fli
open PySem PySem.Spec PyProof.Rows L2
variable [HW]
/-! in a tuple of data of any depth -/
def inTp (neg : Bool) (x y : D) : Option D := (toPy x).bind fun a => (toPy y).bind fun b => match b with
  | .tuple bs => if SeqAt.shaped a = true ∧ SeqAt.shaped (.tuple bs) = true then some (.bl (neg ^^ bs.any fun z => PyData.eqv z a)) else none
  | _ => none
def rInTp (K : PySem.W.Frag) (neg : Bool) : R2 := fun x y H Q => ∃ d ds, Dp K H x d ∧ Dp K H y (.tuple ds) ∧ SeqAt.shaped d = true ∧ SeqAt.shaped (.tuple ds) = true ∧ Q (.bl (neg ^^ ds.any fun z => PyData.eqv z d)) H
section
variable {X : Cx}
theorem op_inTp (hu : X.A.units + 65 < cLine) : OpR X (compareOp .In) (rInTp X.K false) := by
  rintro pins s σ H x y v u Q I rx ry ⟨d, ds, hd, he, sd, se, q⟩
  obtain ⟨as, r1⟩ := Dp.reads I d x v hd rx
  obtain ⟨bs, r2⟩ := Dp.reads I (.tuple ds) y u he ry
  rw [Bool.false_xor] at q
  exact SeqAt.in_tuple_reads r2 r1 (SeqAt.canLay_of_shaped se) (SeqAt.canLay_of_shaped sd) (room_in_shaped sd hu) ⟨.bl _, H, I, rfl, q⟩
theorem op_ninTp (hu : X.A.units + 65 < cLine) : OpR X (compareOp .NotIn) (rInTp X.K true) := by
  rintro pins s σ H x y v u Q I rx ry ⟨d, ds, hd, he, sd, se, q⟩
  obtain ⟨as, r1⟩ := Dp.reads I d x v hd rx
  obtain ⟨bs, r2⟩ := Dp.reads I (.tuple ds) y u he ry
  rw [Bool.true_xor] at q
  exact SeqAt.notIn_tuple_reads r2 r1 (SeqAt.canLay_of_shaped se) (SeqAt.canLay_of_shaped sd) (room_in_shaped sd hu) ⟨.bl _, H, I, rfl, q⟩
end
section
variable {K : PySem.W.Frag} {mg : Str → Option Value}
theorem rd_inTp {neg : Bool} : R2D K mg (rInTp K neg) (inTp neg) := R2D.of fun x y z vx vy H W le hx hy hf Q q => by
  simp only [inTp, Option.bind_eq_some_iff] at hf
  obtain ⟨a, ha, b, hb, hf⟩ := hf
  split at hf
  · split at hf
    · rename_i h
      cases hf
      exact ⟨a, _, toDp le hx ha, toDp le hy hb, h.1, h.2, q _ (.bl _)⟩
    · cases hf
  · cases hf
end
end Fli
set_option Elab.async false
set_option linter.all false
set_option maxRecDepth 100000
set_option maxHeartbeats 4000000
namespace Fli
open PySem PySem.Spec PyProof.Rows L2
variable [HW]
/-! a text several times, any, divmod, an element of an own list as a target -/
structure TxtJ (K : PySem.W.Frag) (mg : Str → Option Value) : Prop extends Txt K mg where
  any : mg "any" = none
  divmod : mg "divmod" = none
theorem txtJ_mk {K : PySem.W.Frag} {mg : Str → Option Value} {h : Heap} (X : K.In h) (G : h.Ns mainGlobals mg) (T : Txt K mg) (z1 : PySem.W.nsIn K mainGlobals "any" = some none) (z2 : PySem.W.nsIn K mainGlobals "divmod" = some none) : TxtJ K mg :=
  have n {x : Str} (e : PySem.W.nsIn K mainGlobals x = some none) : mg x = none := PySem.W.mg_none_of X G e
  ⟨T, n z1, n z2⟩
def rMulS : R2 := fun x y H Q => ∃ i n, x = .str i ∧ y = .int n ∧ MulOk i n ∧ Q (.str (Txt.mul i n)) H
theorem op_mulS {X : Cx} : OpR X (binaryOp .Mult) rMulS := by
  intro pins s σ H x y v u Q I rx ry h
  obtain ⟨i, n, rfl, rfl, hz, q⟩ := h
  obtain ⟨t, rfl⟩ := rx
  obtain ⟨t', rfl⟩ := ry
  exact SB.mul hz fun t' tk => ⟨.str (Txt.mul i n), H, I.tok _, ⟨_, rfl⟩, q⟩
def mulS : D → D → Option D
  | .str i, .int n => if 0 ≤ n ∧ n ≤ 1000 ∧ i.length ≤ 1000 then some (.str (Txt.mul i n)) else none
  | _, _ => none
theorem mul_bounds {x : Str} {n : Int} (h0 : 0 ≤ n) (h1 : n ≤ 1000) (h2 : x.length ≤ 1000) : MulOk x n := by
  refine ⟨?_, fun a b => ?_, fun a b => ?_⟩
  · rw [decide_eq_false (by omega), decide_eq_false (by omega)]; rfl
  · have : (1000 : Int) ≤ (2 ^ 63 - 1) / n := (Int.le_ediv_iff_mul_le (by omega)).mpr (by omega)
    omega
  · have h : x.length * n.toNat ≤ 1000 * 1000 := Nat.mul_le_mul h2 (by omega)
    unfold Builtin.Str.tooLong
    have hz : x.length * n.toNat ≤ sizeLine := Nat.le_trans h (by decide)
    exact decide_eq_false (by omega)
section
variable {K : PySem.W.Frag} {mg : Str → Option Value}
theorem rd_mulS : R2D K mg rMulS mulS := R2D.of fun x y z vx vy H W le hx hy hf Q q => by
  unfold mulS at hf
  split at hf
  · split at hf <;> cases hf
    rename_i h
    cases hx; cases hy
    exact ⟨_, _, rfl, rfl, mul_bounds h.1 h.2.1 h.2.2, q _ (.str _)⟩
  · cases hf
def anyD : List D → Option D
  | [.lst ds] => (blsD ds).map fun bs => .bl (bs.any id)
  | _ => none
theorem cd_any : C1D K mg (rAny K) anyD := C1D.of fun xs z vs H W le hx hf Q q => by
  unfold anyD at hf
  split at hf
  · simp only [Option.map_eq_some_iff] at hf
    obtain ⟨bs, h, rfl⟩ := hf
    cases hx with
    | cons h1 h2 =>
      cases h2
      cases h1 with
      | lst s r => exact ⟨_, bs, rfl, by rw [← bls_rs r h]; exact .inl (.inl (le _ _ s)), q _ (.bl _)⟩
  · cases hf
end
def subF (i : Nat) (k : Int) : D → S → Option S := fun d s => match s[i]? with
  | some (some (.own (.lst ds))) => (L2.ixN ds.length k).map fun n => s.set i (some (.own (.lst (ds.set n d))))
  | _ => none
def dvmS (i : Nat) (k : Int) (j : Nat) (ms : M (List D)) : MS := fun s => (ms s).bind fun q => match q.1 with
  | [.int a, .int b] => if 0 < b ∧ b < 1000000 then (subF i k (.int (a / b)) q.2).map fun s2 => .nx (s2.set j (some (.d (.int (a % b))))) else none
  | _ => none
section
variable {X : Cx} {pr : List Nat} {x y : Str} {p2 p3 py pt pc pos pn : Pos} {ki kt : Nat} {i j : Nat} {k : Int} {a : Expr} {as : List Expr} {ms : M (List D)}
theorem s_dvm {b : Expr} (hcalm : X.calm = true) (hN : X.N.Nodup) (hn : PE X (.Name x p2) (tVar i)) (hb : DE X b (retM (.int k))) (hpg : PG X (.Name y py) (gName j)) (hp : j ∉ pr)
    (hg : Gl X "divmod") (hm : X.mg "divmod" = none) (hs : LA X (a :: as) ms)
    (h0 : ∀ (v : Value), assign (.Subscript (.Name x p2) b p3) X.env v = (do
                let ov ← holding [v] (eval (.Name x p2) X.env)
                let iv ← holding [v, ov] (eval b X.env)
                standAt p3
                holding [v, ov, iv] (setItem ov iv v)
                release [v, ov, iv] []) := by exact fun _ => rfl)
    (he : starEach (a :: as) X.env = (false, eval a X.env) :: starEach as X.env := by rfl) (hpl : (backTo pc (starEach as X.env)).any (·.1) = false := by rfl)
    (hl : (assignEach [.Subscript (.Name x p2) b p3, .Name y py] X.env).length = 2 := by rfl) (hst : (assignEach [.Subscript (.Name x p2) b p3, .Name y py] X.env).findIdx? (·.1) = none := by rfl)
    (hs1 : (assignEach [.Subscript (.Name x p2) b p3, .Name y py] X.env).map (·.2) = assign (.Subscript (.Name x p2) b p3) X.env :: (assignEach [.Name y py] X.env).map (·.2) := by rfl)
    (hs2 : (assignEach [.Name y py] X.env).map (·.2) = assign (.Name y py) X.env :: (assignEach [] X.env).map (·.2) := by rfl)
    (h1 : swapsWithSole [.Tuple [.Subscript (.Name x p2) b p3, .Name y py] kt pt] (.Call (.Name "divmod" pn) (a :: as) [] pc) pos.line X.env = pure false := by rfl)
    (h2 : swappedStores [.Tuple [.Subscript (.Name x p2) b p3, .Name y py] kt pt] (.Call (.Name "divmod" pn) (a :: as) [] pc) X.env = pure none := by rfl)
    (h3 : (assignEach [.Tuple [.Subscript (.Name x p2) b p3, .Name y py] kt pt] X.env).map (fun x => x.2) = [assign (.Tuple [.Subscript (.Name x p2) b p3, .Name y py] kt pt) X.env] := by rfl) :
    SE X pr (.Assign [.Tuple [.Subscript (.Name x p2) b p3, .Name y py] kt pt] (.Call (.Name "divmod" pn) (a :: as) [] pc) pos) (dvmS i k j ms) :=
  PS.imp (ps_asg (pe_callB call_divmodW hg hm rfl hs (by decide) (by decide) he hpl) (pg_tup hcalm (pgs_cons (pg_sub hn hb set_list h0) (pgs_cons hpg pgs_nil hs2) hs1) hl hst) h1 h2 h3) fun D σ H ⟨sd, W, out, st, em, q⟩ => by
  simp only [dvmS, Option.bind_eq_some_iff] at em
  obtain ⟨⟨ds, s1⟩, e1, em⟩ := em
  dsimp only at em
  split at em
  · rename_i a b
    split at em
    · rename_i h
      simp only [Option.map_eq_some_iff] at em
      obtain ⟨s2, e2, rfl⟩ := em
      refine ⟨sd, W, _, s1, st, e1, fun vs H1 W1 st1 k1 r1 => ?_⟩
      cases r1 with
      | cons r1 r2 =>
        cases r2 with
        | cons r2 r3 =>
          cases r3; cases r1; cases r2
          refine ⟨_, _, rfl, ⟨h.1, PyProof.noPylong_small (by omega)⟩, fun p hf => ?_⟩
          obtain ⟨st2, k2⟩ := st1.newV hf (.tup [.int (a / b), .int (a % b)])
          refine ⟨p, [.int (a / b), .int (a % b)], rfl, .inl (.inl upd_same), rfl, _, _, rfl, ?_⟩
          unfold subF at e2
          split at e2
          · rename_i es hi
            simp only [Option.map_eq_some_iff] at e2
            obtain ⟨n, hk, rfl⟩ := e2
            obtain ⟨ad, ea, w, vs, ha, ra⟩ := st2.own i _ hi
            refine ⟨.ref ad, ea, s1, _, .int k, s1, st2, rfl, fun u H3 W3 st3 k3 r3 => ?_⟩
            cases r3
            obtain ⟨ad', ea', w', vs', ha', ra'⟩ := st3.own i _ hi
            rw [ea] at ea'; cases ea'
            obtain ⟨g2, g3⟩ := st3.put (ho := .lst (vs'.set n (.int (a / b)))) (o' := .lst (es.set n (.int (a / b)))) hi ea w' ⟨w', _, upd_same, DRs.set (.int _) n ra'⟩
            refine ⟨_, vs', k, n, rfl, rfl, ha', by rw [ra'.len]; exact hk, _, _, rfl, ?_⟩
            obtain ⟨g4, g5⟩ := g2.setD (.int (a % b)) j
            exact ⟨rfl, q _ _ _ g4 ((((k1.trans k2).trans k3).trans g3).trans g5) (pr_set hp)⟩
          · cases e2
    · cases em
  · cases em
end
end Fli
set_option Elab.async false
set_option linter.all false
set_option maxRecDepth 100000
set_option maxHeartbeats 4000000
namespace Fli
open PySem PySem.Spec PyProof.Rows L2
variable [HW]
/-! own lists made one behind another, kept in a list, and lent one behind another -/
def jgL (vs : List Nat) (asg : D → S → Option S) (mo : M O) : List D → List O → M (List O)
  | [], acc => fun s => some (acc, s)
  | d :: ds, acc => fun s => (asg d s).bind fun s1 => (mo s1).bind fun q => if acc.length < sizeLine then jgL vs asg mo ds (acc ++ [q.1]) (wipeS vs q.2) else none
def gvL (iz : Nat) (me : M D) : List O → List D → M (List D)
  | [], acc => fun s => some (acc, s)
  | o :: os, acc => fun s => (me (s.set iz (some (.own o)))).bind fun q => if acc.length < sizeLine then gvL iz me os (acc ++ [q.1]) (wipeS [iz] q.2) else none
def lawJ (iy ik iz : Nat) (mi : M (List D)) (mo : M O) (me : M D) : MS := fun s => (mi s).bind fun q => if noOwn [ik] q.2 = true then (jgL [ik] (setF ik) mo q.1 [] (wipeS [ik] q.2)).bind fun r =>
  let s2 := (restS q.2 [ik] r.2).set iy none
  if noOwn [iz] s2 = true ∧ iy < s2.length then (gvL iz me r.1 [] (wipeS [iz] s2)).bind fun t => (allD [.lst t.1]).map fun d => .rd d (restS s2 [iz] t.2) else none else none
section
variable {K : PySem.W.Frag} {mg : Str → Option Value}
theorem OR.upd {H W : Hp} {a p : Addr} {o : O} {u : HO} (r : OR K mg H W a o) (n : a ≠ p) : OR K mg (upd H p u) W a o := by
  obtain ⟨w, r⟩ := r
  refine ⟨w, ?_⟩
  cases o with
  | lst ds => obtain ⟨vs, r1, r2⟩ := r; exact ⟨vs, by rw [upd_ne n]; exact r1, r2⟩
  | obj cc fs => obtain ⟨C, dx, gs, r0, r1, r2⟩ := r; exact ⟨C, dx, gs, r0, by rw [upd_ne n]; exact r1, r2⟩
  | dic kvs => obtain ⟨gs, r1, r2⟩ := r; exact ⟨gs, by rw [upd_ne n]; exact r1, r2⟩
  | dit kvs => obtain ⟨gs, r1, r2⟩ := r; exact ⟨gs, by rw [upd_ne n]; exact r1, r2⟩
theorem OR.there {H W : Hp} {a : Addr} {o : O} (r : OR K mg H W a o) : H a ≠ none := by
  obtain ⟨w, r⟩ := r
  cases o with
  | lst ds => obtain ⟨vs, r1, r2⟩ := r; rw [r1]; simp
  | obj cc fs => obtain ⟨C, dx, gs, r0, r1, r2⟩ := r; rw [r1]; simp
  | dic kvs => obtain ⟨gs, r1, r2⟩ := r; rw [r1]; simp
  | dit kvs => obtain ⟨gs, r1, r2⟩ := r; rw [r1]; simp
/-- own lists that no slot has -/
inductive Jg (K : PySem.W.Frag) (mg : Str → Option Value) (s : S) (σ : L2.St) (H W H0 : Hp) : List Addr → List O → Prop
  | nil : Jg K mg s σ H W H0 [] []
  | cons {a : Addr} {o : O} {as : List Addr} {os : List O} : OR K mg H W a o → ¬ Own s σ a → H0 a = none → a ∉ as → Jg K mg s σ H W H0 as os → Jg K mg s σ H W H0 (a :: as) (o :: os)
variable {s s' : S} {σ σ' : L2.St} {H W H' W' H0 : Hp} {as : List Addr} {os : List O}
theorem Jg.step (k : Kp s σ H W s' σ' H' W') (j : Jg K mg s σ H W H0 as os) : Jg K mg s' σ' H' W' H0 as os := by
  induction j with
  | nil => exact .nil
  | cons r n h0 na _ ih =>
    obtain ⟨r', n', _⟩ := r.step n k
    exact .cons r' n' h0 na ih
theorem Jg.wiped {vs : List Nat} {σ1 : L2.St} (j : Jg K mg s σ H W H0 as os) (e : L2.wipe σ vs = σ1) : Jg K mg (wipeS vs s) σ1 H W H0 as os := by
  subst e
  induction j with
  | nil => exact .nil
  | cons r n h0 na _ ih => exact .cons r (fun z => n z.wipe) h0 na ih
theorem Jg.up {p : Addr} {u : HO} (j : Jg K mg s σ H W H0 as os) (n : p ∉ as) : Jg K mg s σ (upd H p u) W H0 as os := by
  induction j with
  | nil => exact .nil
  | cons r nn h0 na _ ih => exact .cons (r.upd fun e => n (by rw [e]; simp)) nn h0 na (ih fun z => n (List.mem_cons_of_mem _ z))
theorem Jg.snoc {p : Addr} {o : O} (j : Jg K mg s σ H W H0 as os) (r : OR K mg H W p o) (n : ¬ Own s σ p) (h0 : H0 p = none) (na : p ∉ as) : Jg K mg s σ H W H0 (as ++ [p]) (os ++ [o]) := by
  induction j with
  | nil => exact .cons r n h0 (by simp) .nil
  | cons r1 n1 h1 na1 _ ih =>
    refine .cons r1 n1 h1 ?_ (ih fun z => na (List.mem_cons_of_mem _ z))
    intro z
    rcases List.mem_append.mp z with z | z
    · exact na1 z
    · rw [List.mem_singleton] at z
      exact na (by rw [z]; simp)
theorem Jg.live (j : Jg K mg s σ H W H0 as os) : ∀ a ∈ as, H a ≠ none := by
  induction j with
  | nil => exact fun a h => nomatch h
  | cons r n h0 na _ ih =>
    intro b hb
    rcases List.mem_cons.mp hb with rfl | hb
    · exact r.there
    · exact ih b hb
theorem Jg.len (j : Jg K mg s σ H W H0 as os) : as.length = os.length := by
  induction j with
  | nil => rfl
  | cons _ _ _ _ _ ih => simp [ih]
theorem Jg.sub {s2 : S} {σ2 : L2.St} (j : Jg K mg s σ H W H0 as os) (h : ∀ a, Own s2 σ2 a → Own s σ a) : Jg K mg s2 σ2 H W H0 as os := by
  induction j with
  | nil => exact .nil
  | cons r n h0 na _ ih => exact .cons r (fun z => n (h _ z)) h0 na ih
theorem Jg.base {H1 : Hp} (j : Jg K mg s σ H W H1 as os) (h : ∀ a, H1 a = none → H0 a = none) : Jg K mg s σ H W H0 as os := by
  induction j with
  | nil => exact .nil
  | cons r n h1 na _ ih => exact .cons r n (h _ h1) na ih
def refsR (as : List Addr) : Hp → HO → Prop := fun _ u => u = .lst (as.map V.ref)
theorem refsR_mono : Mono (refsR as) := fun _ _ _ _ e => e
variable {b : Bool} {g : TG} {asg : D → S → Option S} {mi : M (List D)} {mo : M O} {vs : List Nat}
theorem t_jg (hf : TGx b K mg [] g asg) (hw : TGw vs g) {σ : L2.St} {H : Hp} {Q : VK} (h : ∃ sd W ds s1 r, St K mg sd σ H W ∧ mi sd = some (ds, s1) ∧ noOwn vs s1 = true ∧ jgL vs asg mo ds [] (wipeS vs s1) = some r ∧
      ∀ Dl H' W' as, St K mg (restS s1 vs r.2) σ H' W' → Kp sd σ H W (restS s1 vs r.2) σ H' W' → H' Dl = some (.lst (as.map V.ref)) → W' Dl = none → ¬ Own (restS s1 vs r.2) σ Dl → Jg K mg (restS s1 vs r.2) σ H' W' H as r.1 → Dl ∉ as → H Dl = none → Q (.ref Dl) H') :
    tLc (tI b K mg mi) g (tB K mg (retM true)) (tO K mg mo) vs σ H Q := by
  obtain ⟨sd, W, ds, s1, r, st, e1, no, e2, q⟩ := h
  refine ⟨sd, W, ds, s1, st, e1, fun J H1 W1 st1 k1 io Dl hD => ?_⟩
  let In (j : Nat) (H' : Hp) : Prop := ∃ s' W' as os, Fil K mg (refsR as) Dl (wipeS vs s1) (L2.wipe σ vs) H1 W1 s' (L2.wipe σ vs) H' W' ∧ Jg K mg s' (L2.wipe σ vs) H' W' H1 as os ∧ Dl ∉ as ∧ jgL vs asg mo (ds.drop j) os s' = some r
  refine ⟨fun i m H' => In i H' ∧ m + i = ds.length, ⟨ds.length, ⟨wipeS vs s1, W1, [], [], ?_, .nil, by simp, e2⟩, rfl⟩, ?_⟩
  · obtain ⟨z1, z2⟩ := (st1.wipe (vs := vs)).newO hD (.lst [])
    exact ⟨z1, z2, st1.free hD, fun z => st1.notOwn hD z.wipe, _, upd_same, rfl⟩
  rintro i m H' ⟨⟨s', W', as, os, f, jg, nD, em⟩, hm⟩
  have lW : Le W1 W' := f.kp.le
  by_cases hi : i < ds.length
  · refine .inr ⟨io.go i H' (lW.trans f.st.le) hi, In (i + 1), fun H2 n => ⟨m - 1, by omega, n, by omega⟩, ?_⟩
    intro x H2 y
    rw [List.drop_eq_getElem_cons hi] at em
    simp only [jgL, Option.bind_eq_some_iff] at em
    obtain ⟨s2, a1, ⟨o, s3⟩, a2, em⟩ := em
    split at em
    case isFalse => cases em
    rename_i hsz
    have ww : L2.wipe (L2.wipe σ vs) vs = L2.wipe σ vs := wipe_wipe
    have cont : ∀ σ2 H3 W3, St K mg s2 σ2 H3 W3 → Kp s' (L2.wipe σ vs) H' W' s2 σ2 H3 W3 → L2.wipe σ2 vs = L2.wipe σ vs → tB K mg (retM true) σ2 H3 fun b H4 => if b = true then tO K mg mo σ2 H4 fun y H5 => ∃ acc, H5 Dl = some (.lst acc) ∧ acc.length < sizeLine ∧ In (i + 1) (upd H5 Dl (.lst (acc ++ [y]))) else In (i + 1) H4 := by
      intro σ2 H3 W3 st3 k3 hz
      have f2 := f.step refsR_mono st3 k3
      have j2 := jg.step k3
      refine ⟨s2, W3, true, s2, st3, rfl, fun H4 W4 st4 k4 => iteT ?_⟩
      have f4 := f2.step refsR_mono st4 k4
      have j4 := j2.step k4
      refine ⟨s2, W4, o, s3, st4, a2, fun p H5 W5 st5 k5 ro no5 hp => ?_⟩
      have f5 := f4.step refsR_mono st5 k5
      have j5 := j4.step k5
      obtain ⟨u, hu, eu⟩ := f5.ob
      have eu : u = .lst (as.map V.ref) := eu
      subst eu
      have np : p ∉ as := fun z => j4.live p z hp
      have nDp : p ≠ Dl := fun z => by
        obtain ⟨u, hu4, _⟩ := f4.ob
        rw [z, hu4] at hp; cases hp
      have nDa : Dl ∉ as ++ [p] := fun z => by
        rcases List.mem_append.mp z with z | z
        · exact nD z
        · rw [List.mem_singleton] at z; exact nDp z.symm
      refine ⟨as.map V.ref, hu, by rw [List.length_map, j5.len]; exact hsz, wipeS vs s3, W5, as ++ [p], os ++ [o], ?_, ?_, nDa, em⟩
      · have := f5.put (R' := refsR (as ++ [p])) (u := .lst (as.map V.ref ++ [.ref p])) hD (by unfold refsR; rw [List.map_append]; rfl)
        exact this.wiped hz
      · exact ((j5.snoc ro no5 (f4.kp.fresh hp) np).up nDa).wiped hz
    refine (fun key => by rw [ww] at key; exact key) (hw x (L2.wipe σ vs) H2 _ ?_)
    rcases io.yld i H' x H2 W' lW f.st.le y _ (List.getElem?_eq_getElem hi) with ⟨rfl, r⟩ | ⟨hb, T, vs', es, rfl, hT, rfl, hd, r⟩
    · exact hf.1 x _ s' s2 _ _ W' f.st r a1 _ fun σ2 H3 W3 st3 k3 _ hz => cont σ2 H3 W3 st3 k3 (hz.trans ww)
    · rw [hd] at a1
      obtain ⟨g1, g2⟩ := f.st.newO hT (.tup vs')
      exact hf.2 hb T vs' es s' s2 _ _ W' hT g1 r a1 _ fun σ2 H3 W3 st3 k3 _ hz => cont σ2 H3 W3 st3 (g2.trans k3) (hz.trans ww)
  · rw [List.drop_eq_nil_of_le (by omega)] at em
    cases em
    refine .inl ⟨io.stop i H' (lW.trans f.st.le) (by omega), ?_⟩
    obtain ⟨u, hu, rfl⟩ := f.ob
    obtain ⟨z1, z2⟩ := f.st.rest st1 f.kp.le no
    refine q Dl H' W' as z1 (k1.trans ⟨f.kp.le, fun a o h q => f.kp.keep a o h fun z => q z.wipe, fun a h h' q => f.kp.new a h h' fun z => q z.wipe, fun a h => (f.kp.own a (z2 a h)).imp (fun z => z.wipe) id, f.kp.there⟩) hu f.w (fun z => f.no (z2 _ z)) ?_ nD (k1.fresh hD)
    exact (jg.sub z2).base fun a h => k1.fresh h
theorem Jg.add {s2 : S} {σ2 : L2.St} {a : Addr} (j : Jg K mg s σ H W H0 as os) (h : ∀ b, Own s2 σ2 b → Own s σ b ∨ b = a) (na : a ∉ as) : Jg K mg s2 σ2 H W H0 as os := by
  induction j with
  | nil => exact .nil
  | cons r n h0 na1 _ ih => exact .cons r (fun z => (h _ z).elim n fun e => na (by rw [← e]; simp)) h0 na1 (ih fun z => na (List.mem_cons_of_mem _ z))
theorem t_gv {iy iz : Nat} {me : M D} {L : Addr} {σ : L2.St} {H : Hp} {Q : VK} (h : ∃ sd W s0 σ0 H0 W0 as os r, St K mg sd σ H W ∧ σ[iy]? = some (some (.ref L)) ∧ H L = some (.lst (as.map V.ref)) ∧ W L = none ∧ ¬ Own sd σ L ∧ L ∉ as ∧ Jg K mg sd σ H W H0 as os ∧ noOwn [iz] sd = true ∧ gvL iz me os [] (wipeS [iz] sd) = some r ∧ Kp s0 σ0 H0 W0 sd σ H W ∧
      ∀ Dl H' W', St K mg (restS sd [iz] r.2) σ H' W' → Kp s0 σ0 H0 W0 (restS sd [iz] r.2) σ H' W' → OR K mg H' W' Dl (.lst r.1) → ¬ Own (restS sd [iz] r.2) σ Dl → H0 Dl = none → Q (.ref Dl) H') :
    tLc (iList K (tVar iy)) (gName iz) (tB K mg (retM true)) (tD K mg me) [iz] σ H Q := by
  obtain ⟨sd, W, s0, σ0, H0, W0, as, os, r, st, hL, hHL, hWL, nL, La, jg, no, e2, k0, q⟩ := h
  refine ⟨.ref L, hL, L, rfl, ⟨as.map V.ref, .inl (.inl hHL)⟩, fun Dl hD => ?_⟩
  have live := jg.live
  have hDas : Dl ∉ as := fun z => live Dl z hD
  have hDL : L ≠ Dl := fun e => by rw [e, hD] at hHL; cases hHL
  have hD0 : H0 Dl = none := k0.fresh hD
  let Pv (j : Nat) (H' : Hp) : Prop := ∃ s' W' acc, Fil K mg (lstR K mg acc) Dl s0 σ0 H0 W0 s' (L2.wipe σ [iz]) H' W' ∧ Fil K mg (refsR as) L s0 σ0 H0 W0 s' (L2.wipe σ [iz]) H' W' ∧ Le W W' ∧ Jg K mg s' (L2.wipe σ [iz]) H' W' H0 (as.drop j) (os.drop j) ∧ gvL iz me (os.drop j) acc s' = some r
  refine lc_list (K := K) (a := L) (xs := as.map V.ref) Pv ?_ ?_ ?_ ?_
  · obtain ⟨z1, z2⟩ := (st.wipe (vs := [iz])).newO hD (.lst [])
    have kw : Kp s0 σ0 H0 W0 (wipeS [iz] sd) (L2.wipe σ [iz]) H W := ⟨k0.le, k0.keep, k0.new, fun a z => k0.own a z.wipe, k0.there⟩
    refine ⟨wipeS [iz] sd, W, [], ⟨z1, kw.trans z2, st.free hD, fun z => st.notOwn hD z.wipe, _, upd_same, [], rfl, .nil⟩, ⟨z1, kw.trans z2, hWL, fun z => nL z.wipe, _, by rw [upd_ne hDL]; exact hHL, rfl⟩, Le.refl _, (jg.wiped rfl).up hDas, e2⟩
  · rintro j H' _ ⟨s', W', acc, _, fL, _⟩
    obtain ⟨u, hu, rfl⟩ := fL.ob
    exact .inl (.inl hu)
  · rintro j x H' hx ⟨s', W', acc, f, fL, lW, jg, em⟩
    obtain ⟨a, ha, rfl⟩ : ∃ a, as[j]? = some a ∧ V.ref a = x := by rw [List.getElem?_map] at hx; exact Option.map_eq_some_iff.mp hx
    obtain ⟨hlt, ea⟩ := List.getElem?_eq_some_iff.mp ha
    have ma : a ∈ as := List.mem_of_getElem? ha
    rw [List.drop_eq_getElem_cons hlt, ea] at jg
    generalize hos : os.drop j = od at jg em
    cases jg with
    | @cons _ o _ os' rO n h0 na jt =>
      have hos' : os.drop (j + 1) = os' := by rw [← List.drop_drop, hos]; rfl
      simp only [gvL, Option.bind_eq_some_iff] at em
      obtain ⟨⟨v, s5⟩, a2, em⟩ := em
      split at em
      case isFalse => cases em
      rename_i hsz
      have hz : L2.wipe ((L2.wipe σ [iz]).set iz (some (.ref a))) [iz] = L2.wipe σ [iz] := (wipe_set (by simp)).trans wipe_wipe
      refine ⟨hz, ?_⟩
      obtain ⟨st2, ow⟩ := f.st.setO rO n iz
      have k2 : Kp s0 σ0 H0 W0 (s'.set iz (some (.own o))) ((L2.wipe σ [iz]).set iz (some (.ref a))) H' W' := ⟨f.kp.le, f.kp.keep, f.kp.new, fun b z => (ow b z).elim (f.kp.own b) (fun e => .inr (by rw [e]; exact h0)), f.kp.there⟩
      have f2 : Fil K mg (lstR K mg acc) Dl s0 σ0 H0 W0 (s'.set iz (some (.own o))) ((L2.wipe σ [iz]).set iz (some (.ref a))) H' W' := ⟨st2, k2, f.w, fun z => (ow _ z).elim f.no fun e => hDas (by rw [e]; exact ma), f.ob⟩
      have fL2 : Fil K mg (refsR as) L s0 σ0 H0 W0 (s'.set iz (some (.own o))) ((L2.wipe σ [iz]).set iz (some (.ref a))) H' W' := ⟨st2, k2, fL.w, fun z => (ow _ z).elim fL.no fun e => La (by rw [e]; exact ma), fL.ob⟩
      have jt2 := jt.add ow na
      refine ⟨_, W', true, _, st2, rfl, fun H4 W4 st4 k4 => iteT ?_⟩
      have f4 := f2.step lstR_mono st4 k4
      have fL4 := fL2.step refsR_mono st4 k4
      have jt4 := jt2.step k4
      refine ⟨_, W4, v, s5, st4, a2, fun u H5 W5 st5 k5 ru => ?_⟩
      have f5 := f4.step lstR_mono st5 k5
      have fL5 := fL4.step refsR_mono st5 k5
      have jt5 := jt4.step k5
      obtain ⟨u', hu, av, rfl, ra⟩ := f5.ob
      obtain ⟨uL, huL, euL⟩ := fL5.ob
      have fD := f5.put (R' := lstR K mg (acc ++ [v])) (u := .lst (av ++ [u])) hD0 ⟨av ++ [u], rfl, ra.app (.cons ru .nil)⟩
      have fD2 := fD.wiped1 (vs := [iz])
      rw [hz] at fD2
      have nDr : Dl ∉ as.drop (j + 1) := fun z => hDas (List.mem_of_mem_drop z)
      refine ⟨av, hu, by rw [ra.len]; exact hsz, wipeS [iz] s5, W5, acc ++ [v], fD2, ⟨fD2.st, fD2.kp, fL5.w, fun z => fL5.no (by rw [← hz] at z; exact z.wipe), uL, by rw [upd_ne hDL]; exact huL, euL⟩, (lW.trans (k4.le.trans k5.le)), ?_, by rw [hos']; exact em⟩
      rw [hos']
      exact (jt5.up nDr).wiped hz
  · rintro H' ⟨s', W', acc, f, fL, lW, jg, em⟩
    rw [List.length_map, List.drop_length] at jg
    generalize hos : os.drop (as.map V.ref).length = od at em
    rw [List.length_map] at hos
    rw [hos] at jg
    cases jg
    cases em
    obtain ⟨z1, z2⟩ := f.st.rest st lW no
    obtain ⟨u, hu, av, rfl, ra⟩ := f.ob
    exact q Dl H' W' z1 ⟨f.kp.le, f.kp.keep, f.kp.new, fun a z => f.kp.own a (z2 a z), f.kp.there⟩ ⟨f.w, av, hu, ra⟩ (fun z => f.no (z2 _ z)) hD0
theorem own_hide {i : Nat} {v : V} (a : Addr) (h : Own (s.set i none) (σ.set i (some v)) a) : Own s σ a := by
  obtain ⟨j, o, e1, e2⟩ := h
  by_cases z : i = j
  · subst z
    rw [List.getElem?_set] at e1
    simp at e1
  · rw [List.getElem?_set, if_neg z] at e1 e2
    exact ⟨j, o, e1, e2⟩
theorem St.hide (st : St K mg s σ H W) (i : Nat) (v : V) : St K mg (s.set i none) (σ.set i (some v)) H W := by
  have old : ∀ (j : Nat) (x : A), (s.set i none)[j]? = some (some x) → i ≠ j ∧ s[j]? = some (some x) := fun j x h => by
    by_cases z : i = j
    · subst z
      rw [List.getElem?_set] at h
      simp at h
    · rw [List.getElem?_set, if_neg z] at h
      exact ⟨z, h⟩
  refine ⟨st.le, by rw [List.length_set, List.length_set]; exact st.len, fun j d h => ?_, fun j o h => ?_, fun j k o u a h1 h2 h3 h4 => ?_⟩
  · obtain ⟨n, h⟩ := old j _ h
    obtain ⟨w, e, r⟩ := st.dat j d h
    exact ⟨w, by rw [List.getElem?_set, if_neg n]; exact e, r⟩
  · obtain ⟨n, h⟩ := old j _ h
    obtain ⟨w, e, r⟩ := st.own j o h
    exact ⟨w, by rw [List.getElem?_set, if_neg n]; exact e, r⟩
  · obtain ⟨n1, h1⟩ := old j _ h1
    obtain ⟨n2, h2⟩ := old k _ h2
    rw [List.getElem?_set, if_neg n1] at h3
    rw [List.getElem?_set, if_neg n2] at h4
    exact st.inj j k o u a h1 h2 h3 h4
end
section
variable {X : Cx}
theorem e_lendGX {k n : Nat} {N ps : List Str} {body : MS} {x y : Str} {p p2 pos : Pos} (i : Nat) (d : DefG X.prog X.w X.K X.mg X.base k x N ps [0] body) (gd : X.A.guards = some []) (hr : Room k X.A) (hg : Gl X x) (hn : N.length = n) (hy : PE X (.Name y p2) (tVar i)) (hj : 0 + 1 = ps.length) (hdb : (x == ("__debug__" : Str)) = false := by decide)
    (he : starEach [.Name y p2] X.env = (false, eval (.Name y p2) X.env) :: starEach [] X.env := by rfl) (hpl : (backTo pos (starEach [] X.env)).any (·.1) = false := by rfl) : DE X (.Call (.Name x p) [.Name y p2] [] pos) (lendD n body i (retM [])) := by
  obtain ⟨f, fd, F, hm, hk, hb⟩ := d
  exact PE.imp (pe_callG F gd hr hg hm hk hb (pa_cons hy la_nil he) hdb he hpl) fun σ H Q h => t_lendD (E := E0) hn len_nil hj h
theorem ss_jugs {iy ik iz : Nat} {y k z : Str} {elt1 elt2 it : Expr} {scope1 scope2 : Scope} {py py2 pk pz pa pc pos1 pos2 spos rpos : Pos} {mi : M (List D)} {mo : M O} {me : M D}
    (hc : X.calm = true) (hN : X.N.Nodup) (hy : X.N[iy]? = some y) (hyl : X.env.scope.names.lookup y = some .local)
    (hi : IW false X (.Name k pk) it mi) (ok1 : BlkOk X.N X.env.scope scope1 [(k, ik)]) (hg1 : Blks X scope1 fun Y => PG Y (.Name k pk) (gName ik)) (he1 : Blks X scope1 fun Y => PE Y elt1 (tO X.K X.mg mo))
    (hv : PE X (.Name y py2) (tVar iy)) (ok2 : BlkOk X.N X.env.scope scope2 [(z, iz)]) (hg2 : Blks X scope2 fun Y => PG Y (.Name z pz) (gName iz)) (he2 : Blks X scope2 fun Y => PE Y elt2 (tD X.K X.mg me))
    (hall : Gl X "all") (hma : X.mg "all" = none)
    (hs1 : ∀ x, foldedSetIterable it X.env x = pure x := by intro _; rfl) (hs2 : ∀ x, foldedSetIterable (.Name y py2) X.env x = pure x := by intro _; rfl)
    (hsw : swapsWith (.ListComp elt1 [⟨.Name k pk, it, [], 0⟩] scope1 pos1) (some (.Name y py)) spos.line X.env = pure true := by exact sw_true rfl rfl rfl (by decide +kernel))
    (he : starEach [.ListComp elt2 [⟨.Name z pz, .Name y py2, [], 0⟩] scope2 pos2] X.env = (false, eval (.ListComp elt2 [⟨.Name z pz, .Name y py2, [], 0⟩] scope2 pos2) X.env) :: starEach [] X.env := by rfl) (hpl : (backTo pc (starEach [] X.env)).any (·.1) = false := by rfl) :
    SEs X [] [.Assign [.Name y py] (.ListComp elt1 [⟨.Name k pk, it, [], 0⟩] scope1 pos1) spos, .Return (some (.Call (.Name "all" pa) [.ListComp elt2 [⟨.Name z pz, .Name y py2, [], 0⟩] scope2 pos2] [] pc)) rpos] (lawJ iy ik iz mi mo me) := by
  refine PSs.imp (pss_cons (ps_setLc (tt := Fli.tB X.K X.mg (retM true)) hc hN hy hyl hsw hi ok1 hg1 (fun _ _ _ _ _ => pts_0) he1 hs1) (pss_cons (ps_ret (pe_callB (cr_all hc) hall hma rfl (pa_cons (pe_lc (tt := Fli.tB X.K X.mg (retM true)) hc hN (pi_list hv) ok2 hg2 (fun _ _ _ _ _ => pts_0) he2 hs2) pa_nil he) (by decide) (by decide) he hpl)) pss_nil)) fun D σ H ⟨sd, W, out, st, em, q⟩ => ?_
  simp only [lawJ, Option.bind_eq_some_iff] at em
  obtain ⟨⟨ds, s1⟩, e1, em⟩ := em
  dsimp only at em
  split at em
  case isFalse => cases em
  rename_i no
  simp only [Option.bind_eq_some_iff] at em
  obtain ⟨r, e2, em⟩ := em
  split at em
  case isFalse => cases em
  rename_i no2
  simp only [Option.bind_eq_some_iff, Option.map_eq_some_iff] at em
  obtain ⟨t, e3, d, e4, rfl⟩ := em
  show tLc (tI false X.K X.mg mi) (gName ik) (Fli.tB X.K X.mg (retM true)) (Fli.tO X.K X.mg mo) [ik] σ H (fun x H1 => gName iy x σ H1 fun σ' H' => tLc (iList X.K (tVar iy)) (gName iz) (Fli.tB X.K X.mg (retM true)) (Fli.tD X.K X.mg me) [iz] σ' H' fun v H2 => rAll X.K [v] H2 fun u H3 => D.rt u H3)
  refine t_jg (b := false) (tgx_f (tg_name (fun h => nomatch h))) (tw_name (List.mem_singleton.mpr rfl)) ⟨sd, W, ds, s1, r, st, e1, no, e2, fun L H1 W1 as st1 k1 hHL hWL nL jg La hL0 => ?_⟩
  have st2 := st1.hide iy (.ref L)
  have len2 := st2.len
  have k2 : Kp sd σ H W ((restS s1 [ik] r.2).set iy none) (σ.set iy (some (.ref L))) H1 W1 := ⟨k1.le, k1.keep, k1.new, fun a z => k1.own a (own_hide a z), k1.there⟩
  show tLc (iList X.K (tVar iy)) (gName iz) (Fli.tB X.K X.mg (retM true)) (Fli.tD X.K X.mg me) [iz] (σ.set iy (some (.ref L))) H1 fun v H2 => rAll X.K [v] H2 fun u H3 => D.rt u H3
  refine t_gv ⟨_, W1, sd, σ, H, W, as, r.1, t, st2, ?_, hHL, hWL, fun z => nL (own_hide _ z), La, jg.sub own_hide, no2.1, e3, k2, fun Dl H2 W2 st3 k3 ro n3 h0 => ?_⟩
  · have : iy < σ.length := by
      have := no2.2
      rw [len2, List.length_set] at this
      exact this
    rw [List.getElem?_set, if_pos rfl, if_pos this]
  · obtain ⟨w, vs, hvs, rs⟩ := ro
    have e4 : (blsD t.1).map (fun bs => Fli.D.bl (bs.all id)) = some d := e4
    obtain ⟨bs, hb, rfl⟩ := Option.map_eq_some_iff.mp e4
    exact ⟨Dl, bs, rfl, by rw [← bls_rs rs hb]; exact .inl (.inl hvs), q _ _ H2 W2 st3 k3 (fun i h => nomatch h) (.bl _)⟩
end
end Fli
set_option Elab.async false
set_option linter.all false
set_option maxRecDepth 100000
set_option maxHeartbeats 4000000
namespace Fli
open PySem PySem.Spec PyProof.Rows L2
variable [HW]
/-! l.index(x), l a list of texts -/
def lixD : D → D → Option D
  | .lst ds, .str z => (strsD ds).bind fun ys => (ys.findIdx? (· == z)).map fun (j : Nat) => D.int (j : Int)
  | _, _ => none
section
variable {X : Cx} {o e : Expr} {ma mb : M D} {apos pos : Pos}
theorem e_lix (ho : DE X o ma) (he : DE X e mb) (h1 : attributeBase o "index" X.env (eval o X.env) = eval o X.env := by rfl)
    (h2 : ((((backTo pos (starEach [e] X.env)).all fun x => !x.1) && (backToKw pos (keywordEach [] X.env)).all fun x => x.1.isSome) && decide (([e].length + ([] : List Keyword).length + if ([] : List Keyword).isEmpty = true then 0 else 1) < 30)) = true := by rfl) (h3 : (apos.endLine == pos.line) = true := by rfl)
    (h4 : starEach [e] X.env = (false, eval e X.env) :: starEach [] X.env := by rfl) (h5 : (backTo pos (starEach [] X.env)).any (fun x => x.1) = false := by rfl) :
    DE X (.Call (.Attribute o "index" apos) [e] [] pos) (mBin lixD ma mb) := PE.imp (pe_bm PySem.F.plainAttrs_list PySem.F.slot_list_index PySem.F.type_list_index mt_index ho (pa_cons he pa_nil h4) h1 h2 h3 h4 h5) fun σ H Q ⟨sd, W, d, sd', st, em, q⟩ => by
  obtain ⟨a, s1, e1, em⟩ := bindM_some em
  obtain ⟨b, s2, e2, em⟩ := bindM_some em
  obtain ⟨e3, rfl⟩ := optM_some em
  refine ⟨sd, W, a, s1, st, e1, fun v H1 W1 st1 k1 r1 => ?_⟩
  unfold lixD at e3
  split at e3
  · rename_i ds z _
    cases r1 with
    | @lst ad vs _ sa ra =>
      refine ⟨.inl ⟨rfl, vs, .inl (.inl (st1.le _ _ sa))⟩, s1, W1, _, sd', st1, e2, fun u H2 W2 st2 k2 r2 => ?_⟩
      cases r2
      simp only [Option.bind_eq_some_iff, Option.map_eq_some_iff] at e3
      obtain ⟨ys, hys, j, hj, rfl⟩ := e3
      have ev := strs_rs ra hys
      subst ev
      obtain ⟨hlt, hj1, hj2⟩ := List.findIdx?_eq_some_iff_getElem.mp hj
      refine ⟨ad, ys.map V.str, .str z, j, .str ys[j], rfl, rfl, .inl (.inl (st2.le _ _ (k2.le _ _ sa))), rfl, ?_, ?_, ?_, ?_, q _ H2 W2 st2 (k1.trans k2) (.int _)⟩
      · rw [List.all_map, List.all_eq_true]; intro y _; rfl
      · rw [List.getElem?_map, List.getElem?_eq_getElem hlt]; rfl
      · exact hj1
      · intro m z' hm hz
        have hml : m < ys.length := by omega
        rw [List.getElem?_map, List.getElem?_eq_getElem hml] at hz
        cases hz
        have := hj2 m hm
        show (ys[m] == z) = false
        exact Bool.eq_false_iff.mpr this
  · cases e3
end
end Fli
set_option Elab.async false
set_option linter.all false
set_option maxRecDepth 100000
set_option maxHeartbeats 4000000
namespace Fli
open PySem PySem.Spec PyProof.Rows L2
variable [HW]
/-! x is not y, both true or false -/
def nottD : D → D → Option D
  | .bl a, .bl b => some (.bl (!decide (a = b)))
  | _, _ => none
def rNott : R2 := fun x y H Q => ∃ a b, x = V.bl a ∧ y = V.bl b ∧ Q (V.bl (!decide (a = b))) H
section
variable {X : Cx} {K : PySem.W.Frag} {mg : Str → Option Value}
theorem op_nott : OpR X (compareOp .IsNot) rNott := by
  intro pins s σ H x y v u Q I rx ry h
  obtain ⟨m, n, rfl, rfl, q⟩ := h
  cases (show v = Value.bool m from rx)
  cases (show u = Value.bool n from ry)
  by_cases e : m = n
  · subst e
    exact wpAny_isNot_self rfl ⟨.bl false, H, I, rfl, by simpa using q⟩
  · exact wpAny_isNot_other rfl (fun z => e (Value.bool.inj z)) ⟨.bl true, H, I, rfl, by simpa [e] using q⟩
theorem rd_nott : R2D K mg rNott nottD := R2D.of fun x y z vx vy H W le hx hy hf Q q => by
  unfold nottD at hf
  split at hf
  · cases hf; cases hx; cases hy
    exact ⟨_, _, rfl, rfl, q _ (.bl _)⟩
  · cases hf
end
end Fli
set_option Elab.async false
set_option linter.all false
set_option maxRecDepth 100000
set_option maxHeartbeats 4000000
namespace Fli
open PySem PySem.Spec PyProof.Rows L2
variable [HW]
/-! own dicts with texts and ints for keys: made empty, written, read -/
section
variable {K : PySem.W.Frag} {mg : Str → Option Value} {sd s' : S} {σ : L2.St} {H W : Hp}
def mDic (i : Nat) : M (List (Key × D)) := fun s => match s[i]? with
  | some (some (.own (.dic kvs))) => some (kvs, s)
  | some (some (.d (.dic kvs))) => some (kvs, s)
  | _ => none
theorem mDic_at {i : Nat} {kvs : List (Key × D)} (st : St K mg sd σ H W) (h : mDic i sd = some (kvs, s')) : s' = sd ∧ ∃ a gs, σ[i]? = some (some (.ref a)) ∧ H a = some (.dK gs) ∧ DKs K mg W gs kvs := by
  unfold mDic at h
  split at h
  · rename_i ds' e
    cases h
    obtain ⟨a, e1, w, gs, e2, r⟩ := st.own i _ e
    exact ⟨rfl, a, gs, e1, e2, r⟩
  · rename_i ds' e
    cases h
    obtain ⟨v, e1, r⟩ := st.dat i _ e
    cases r with
    | dic s r => exact ⟨rfl, _, _, e1, st.le _ _ s, r⟩
  · cases h
def mKow (i : Nat) : M (List (Key × D)) := fun s => match s[i]? with
  | some (some (.own (.dic kvs))) => some (kvs, s)
  | _ => none
theorem mKow_at {i : Nat} {kvs : List (Key × D)} (st : St K mg sd σ H W) (h : mKow i sd = some (kvs, s')) : s' = sd ∧ sd[i]? = some (some (.own (.dic kvs))) ∧ ∃ a gs, σ[i]? = some (some (.ref a)) ∧ W a = none ∧ H a = some (.dK gs) ∧ DKs K mg W gs kvs := by
  unfold mKow at h
  split at h
  · rename_i ds' e
    cases h
    obtain ⟨a, e1, w, gs, e2, r⟩ := st.own i _ e
    exact ⟨rfl, e, a, gs, e1, w, e2, r⟩
  · cases h
theorem dks_any {gs : List (Key × V)} {kvs : List (Key × D)} {a : Addr} {k : Key} (e : H a = some (.dK gs)) (r : DKs K mg W gs kvs) : ∃ o, DGet H a (kV k) o ∧ o.isSome = (valP kvs k).isSome ∧ ∀ v, o = some v → ∃ d, valP kvs k = some d ∧ DR K mg W v d := by
  refine ⟨valV gs k, DGet.k e, ?_, ?_⟩
  · rcases r.val (k := k) with ⟨v1, d1, z1, z2, _⟩ | ⟨z1, z2⟩
    · rw [z1, z2]; rfl
    · rw [z1, z2]; rfl
  · intro v hv
    rcases r.val (k := k) with ⟨v1, d1, z1, z2, r1⟩ | ⟨z1, z2⟩
    · rw [z1] at hv; cases hv
      exact ⟨d1, z2, r1⟩
    · rw [z1] at hv; cases hv
end
section
variable {X : Cx} {e f a : Expr} {m ma mb mc : M D} {x : Str} {p2 pos apos cpos : Pos}
/-- {} -/
theorem o_knew : OE X (.Dict [] [] pos) (fun s => some (.dic [], s)) := PE.imp (pe_dnewK) fun σ H Q ⟨sd, W, o, sd', st, em, q⟩ => fun p hp => by
  cases em
  obtain ⟨z1, z2⟩ := st.newO hp (.dK [])
  exact q p _ W z1 z2 ⟨st.free hp, [], upd_same, .nil⟩ (st.notOwn hp) hp
/-- x[e], x an own one -/
def kixN (i : Nat) (mb : M D) : M D := bindM (mDic i) fun _ => bindM mb fun y => bindM (mDic i) fun kvs => optM ((keyD y).bind (valP kvs))
theorem e_kixN (i : Nat) (hu : X.A.units + 1 < cLine) (hn : PE X (.Name x p2) (tVar i)) (hb : DE X e mb) (hs : NoSl e := by exact fun _ _ => rfl) : DE X (.Subscript (.Name x p2) e pos) (kixN i mb) := PE.imp (pe_dget hu hn hb hs) fun σ H Q ⟨sd, W, d, sd', st, em, q⟩ => by
  obtain ⟨k0, s0, e0, em⟩ := bindM_some em
  obtain ⟨y, s2, e2, em⟩ := bindM_some em
  obtain ⟨kvs, s3, e3, em⟩ := bindM_some em
  obtain ⟨e4, rfl⟩ := optM_some em
  obtain ⟨rfl, a, gs0, ha, _, _⟩ := mDic_at st e0
  refine ⟨_, ha, s0, W, y, s2, st, e2, fun u H2 W2 st2 k2 r2 => ?_⟩
  obtain ⟨rfl, a', gs, ha', g1, rg⟩ := mDic_at st2 e3
  rw [ha] at ha'; cases ha'
  simp only [Option.bind_eq_some_iff] at e4
  obtain ⟨k, h1, h2⟩ := e4
  have hk := keyD_v r2 h1
  subst hk
  rcases rg.val (k := k) with ⟨v1, d1, z1, z2, r⟩ | ⟨_, z⟩
  · rw [h2] at z2; cases z2
    exact ⟨a, v1, rfl, by rw [← z1]; exact DGet.k g1, q _ H2 W2 st2 k2 r⟩
  · rw [h2] at z; cases z
/-- x.get(e, f) -/
def kgetN (i : Nat) (mb mc : M D) : M D := bindM (mDic i) fun _ => bindM mb fun y => bindM mc fun z => bindM (mDic i) fun kvs => optM ((keyD y).map fun k => (valP kvs k).getD z)
theorem e_kgetN (i : Nat) (hu : X.A.units + 1 < cLine) (hn : PE X (.Name x p2) (tVar i)) (hb : DE X e mb) (hc : DE X f mc) (m2 : M2 X (.Name x p2) "get" apos e f cpos := by exact ⟨rfl, rfl, rfl, rfl⟩) : DE X (.Call (.Attribute (.Name x p2) "get" apos) [e, f] [] cpos) (kgetN i mb mc) := PE.imp (pe_dget2 hu hn hb hc m2) fun σ H Q ⟨sd, W, d, sd', st, em, q⟩ => by
  obtain ⟨k0, s0, e0, em⟩ := bindM_some em
  obtain ⟨y, s2, e2, em⟩ := bindM_some em
  obtain ⟨z, s4, e4, em⟩ := bindM_some em
  obtain ⟨kvs, s3, e3, em⟩ := bindM_some em
  obtain ⟨e5, rfl⟩ := optM_some em
  obtain ⟨rfl, a, gs0, ha, ha1, _⟩ := mDic_at st e0
  refine ⟨_, ha, a, rfl, .inl ⟨gs0, .inl ha1⟩, s0, W, y, s2, st, e2, fun u H2 W2 st2 k2 r2 => ⟨s2, W2, z, s4, st2, e4, fun w H3 W3 st3 k3 r3 => ?_⟩⟩
  obtain ⟨rfl, a', gs, ha', g1, rg⟩ := mDic_at st3 e3
  rw [ha] at ha'; cases ha'
  simp only [Option.map_eq_some_iff] at e5
  obtain ⟨k, h1, rfl⟩ := e5
  have hk := keyD_v r2 h1
  subst hk
  rcases rg.val (k := k) with ⟨v1, d1, z1, z2, r⟩ | ⟨z1, z2⟩
  · exact ⟨_, DGet.k g1, by rw [z1]; rw [z2] at q; exact q _ H3 W3 st3 (k2.trans k3) r⟩
  · exact ⟨_, DGet.k g1, by rw [z1]; rw [z2] at q; exact q _ H3 W3 st3 (k2.trans k3) r3⟩
/-- e in x, e not in x -/
def rKIn (neg : Bool) : R2 := fun y x H Q => ∃ a o, x = .ref a ∧ DGet H a y o ∧ Q (.bl (neg ^^ o.isSome)) H
theorem op_kin (hu : X.A.units + 1 < cLine) : OpR X (compareOp .In) (rKIn false) := by
  intro pins s σ H y x u v Q I ry rx h
  obtain ⟨a, ov, ex, g, q⟩ := h
  subst ex
  obtain rfl : v = Value.ref a := rx
  exact d_in hu I g ry fun s3 I3 => ⟨.bl ov.isSome, H, I3, rfl, by simpa using q⟩
theorem op_knin (hu : X.A.units + 1 < cLine) : OpR X (compareOp .NotIn) (rKIn true) := by
  intro pins s σ H y x u v Q I ry rx h
  obtain ⟨a, ov, ex, g, q⟩ := h
  subst ex
  obtain rfl : v = Value.ref a := rx
  exact d_notIn hu I g ry fun s3 I3 => ⟨.bl (!ov.isSome), H, I3, rfl, by simpa using q⟩
def kinN (neg : Bool) (i : Nat) (ma : M D) : M D := bindM ma fun y => bindM (mDic i) fun kvs => optM ((keyD y).map fun k => .bl (neg ^^ (valP kvs k).isSome))
theorem t_kinN {neg : Bool} {i : Nat} {K : PySem.W.Frag} {mg : Str → Option Value} {σ : L2.St} {H : Hp} {Q : VK} (h : tD K mg (kinN neg i ma) σ H Q) : tOp (rKIn neg) (tD K mg ma) (tVar i) σ H Q := by
  obtain ⟨sd, W, d, sd', st, em, q⟩ := h
  obtain ⟨y, s2, e2, em⟩ := bindM_some em
  obtain ⟨kvs, s3, e3, em⟩ := bindM_some em
  obtain ⟨e4, rfl⟩ := optM_some em
  refine ⟨sd, W, y, s2, st, e2, fun u H2 W2 st2 k2 r2 => ?_⟩
  obtain ⟨rfl, a, gs, ha, g1, rg⟩ := mDic_at st2 e3
  simp only [Option.map_eq_some_iff] at e4
  obtain ⟨k, h1, rfl⟩ := e4
  have hk := keyD_v r2 h1
  subst hk
  obtain ⟨o, g, e, _⟩ := dks_any g1 rg (k := k)
  exact ⟨_, ha, a, o, rfl, g, by rw [e]; exact q _ H2 W2 st2 k2 (.bl _)⟩
theorem e_kin (i : Nat) (hu : X.A.units + 1 < cLine) (ha : DE X a ma) (hn : PE X (.Name x p2) (tVar i)) (hm : behindInMarks .In (.Name x p2) = false := by rfl) : DE X (.Compare a [.In] [.Name x p2] pos) (kinN false i ma) :=
  PE.imp (pe_cmpR (op_kin hu) ha hn hm) fun σ H Q h => t_kinN h
theorem e_knin (i : Nat) (hu : X.A.units + 1 < cLine) (ha : DE X a ma) (hn : PE X (.Name x p2) (tVar i)) (hm : behindInMarks .NotIn (.Name x p2) = false := by rfl) : DE X (.Compare a [.NotIn] [.Name x p2] pos) (kinN true i ma) :=
  PE.imp (pe_cmpR (op_knin hu) ha hn hm) fun σ H Q h => t_kinN h
theorem b_kin (i : Nat) (hu : X.A.units + 1 < cLine) (ha : DE X a ma) (hn : PE X (.Name x p2) (tVar i)) (hm : behindInMarks .In (.Name x p2) = false := by rfl) : BT X (.Compare a [.In] [.Name x p2] pos) (bindM (kinN false i ma) fun d => optM (blD d)) :=
  PT.imp (pt_cmpR (op_kin hu) ha hn hm) fun σ H Q h => t_test (fun _ _ _ z => t_kinN z) h
theorem b_knin (i : Nat) (hu : X.A.units + 1 < cLine) (ha : DE X a ma) (hn : PE X (.Name x p2) (tVar i)) (hm : behindInMarks .NotIn (.Name x p2) = false := by rfl) : BT X (.Compare a [.NotIn] [.Name x p2] pos) (bindM (kinN true i ma) fun d => optM (blD d)) :=
  PT.imp (pt_cmpR (op_knin hu) ha hn hm) fun σ H Q h => t_test (fun _ _ _ z => t_kinN z) h
/-- x[e] = f -/
def kputN (i : Nat) (mi m : M D) : MS := fun s => (bindM m (fun d => bindM (mKow i) fun _ => bindM mi fun y => bindM (mKow i) fun kvs => bindM (optM (keyD y)) fun k => bindM (optM (if kvs.length < sizeLine then some () else none)) fun _ => fun s => some ((), s.set i (some (.own (.dic (putP kvs k d)))))) s).map fun p => .nx p.2
theorem s_kputN (i : Nat) {p3 : Pos} {b : Expr} {mi : M D} {pr : List Nat} (hu : X.A.units + 1 < cLine) (hn : PE X (.Name x p2) (tVar i)) (hb : DE X b mi) (h : DE X e m) (h6 : swapsWith e (some (.Subscript (.Name x p2) b p3)) pos.line X.env = pure false := by rfl) :
    SE X pr (.Assign [.Subscript (.Name x p2) b p3] e pos) (kputN i mi m) := PS.imp (ps_dput hu hn hb h h6) fun D σ H ⟨sd, W, out, st, em, q⟩ => by
  simp only [kputN, Option.map_eq_some_iff] at em
  obtain ⟨⟨_, s9⟩, em, rfl⟩ := em
  obtain ⟨d, s0, e0, em⟩ := bindM_some em
  obtain ⟨d1, s1, e1, em⟩ := bindM_some em
  obtain ⟨y, s2, e2, em⟩ := bindM_some em
  obtain ⟨kvs, s3, e3, em⟩ := bindM_some em
  obtain ⟨k, hk, em⟩ := bindO_some em
  obtain ⟨_, hz, emf⟩ := bindO_some em
  cases emf
  refine ⟨sd, W, d, s0, st, e0, fun v H1 W1 st1 k1 r1 => ?_⟩
  obtain ⟨rfl, _, a, gs0, ha, _, _, _⟩ := mKow_at st1 e1
  refine ⟨_, ha, s1, W1, y, s2, st1, e2, fun u H2 W2 st2 k2 r2 => ?_⟩
  obtain ⟨rfl, es, a', gs, ha', w, g1, r⟩ := mKow_at st2 e3
  rw [ha] at ha'; cases ha'
  have hk' := keyD_v r2 hk
  subst hk'
  split at hz
  · rename_i hl
    obtain ⟨g2, g3⟩ := st2.put (ho := .dK (putK gs k v)) (o' := .dic (putP kvs k d)) es ha w ⟨w, _, upd_same, r.put (r1.le k2.le)⟩
    exact ⟨a, _, rfl, .inl ⟨gs, k, g1, rfl, by rw [r.len]; exact hl, rfl⟩, q σ _ _ g2 ((k1.trans k2).trans g3) Pr.refl⟩
  · cases hz
/-- x.setdefault(e, f) -/
def ksetN (i : Nat) (mb mc : M D) : M D := bindM (mKow i) fun _ => bindM mb fun y => bindM mc fun z => bindM (mKow i) fun kvs => bindM (optM (keyD y)) fun k => bindM (optM (if kvs.length < sizeLine then some () else none)) fun _ => fun s => match valP kvs k with
  | some d => some (d, s)
  | none => some (z, s.set i (some (.own (.dic (putP kvs k z)))))
theorem e_ksetN (i : Nat) (hn : PE X (.Name x p2) (tVar i)) (hb : DE X e mb) (hc : DE X f mc) (m2 : M2 X (.Name x p2) "setdefault" apos e f cpos := by exact ⟨rfl, rfl, rfl, rfl⟩) : DE X (.Call (.Attribute (.Name x p2) "setdefault" apos) [e, f] [] cpos) (ksetN i mb mc) := PE.imp (pe_dsetd hn hb hc m2) fun σ H Q ⟨sd, W, d, sd', st, em, q⟩ => by
  obtain ⟨k0, s0, e0, em⟩ := bindM_some em
  obtain ⟨y, s2, e2, em⟩ := bindM_some em
  obtain ⟨z, s4, e4, em⟩ := bindM_some em
  obtain ⟨kvs, s3, e3, em⟩ := bindM_some em
  obtain ⟨k, hk, em⟩ := bindO_some em
  obtain ⟨_, hz, emf⟩ := bindO_some em
  clear em
  obtain ⟨rfl, _, a, gs0, ha, _, ha1, _⟩ := mKow_at st e0
  refine ⟨_, ha, a, rfl, .inl ⟨gs0, .inl ha1⟩, s0, W, y, s2, st, e2, fun u H2 W2 st2 k2 r2 => ⟨s2, W2, z, s4, st2, e4, fun w H3 W3 st3 k3 r3 => ?_⟩⟩
  obtain ⟨rfl, es, a', gs, ha', w0, g1, rg⟩ := mKow_at st3 e3
  rw [ha] at ha'; cases ha'
  have hk' := keyD_v r2 hk
  subst hk'
  split at hz
  · rename_i hl
    refine ⟨gs, k, g1, rfl, by rw [rg.len]; exact hl, fun v hv => ?_, fun hv => ?_⟩
    · rcases rg.val (k := k) with ⟨v1, d1, z1, z2, r⟩ | ⟨z1, _⟩
      · rw [hv] at z1; cases z1
        rw [z2] at emf; cases emf
        exact q _ H3 W3 st3 (k2.trans k3) r
      · rw [hv] at z1; cases z1
    · rcases rg.val (k := k) with ⟨v1, d1, z1, _, r⟩ | ⟨_, z2⟩
      · rw [hv] at z1; cases z1
      · rw [z2] at emf; cases emf
        obtain ⟨g2, g3⟩ := st3.put (ho := .dK (putK gs k w)) (o' := .dic (putP kvs k d)) es ha w0 ⟨w0, _, upd_same, rg.put r3⟩
        exact q _ _ _ g2 ((k2.trans k3).trans g3) r3
  · cases hz
/-- {k: v} -/
def mDispK (mk mv : M D) : M O := bindM mk fun y => bindM mv fun d => optM ((keyD y).map fun k => .dic [(k, d)])
theorem o_kdisp {k v : Expr} {mk mv : M D} (hk : DE X k mk) (hv : DE X v mv) : OE X (.Dict [some k] [v] pos) (mDispK mk mv) := PE.imp (pe_disp (pps_cons hk hv pps_nil) rfl rfl (by simp) (by simp)) fun σ H Q ⟨sd, W, o, sd', st, em, q⟩ => fun p hp => by
  obtain ⟨y, s1, e1, em⟩ := bindM_some em
  obtain ⟨d, s2, e2, em⟩ := bindM_some em
  obtain ⟨e3, rfl⟩ := optM_some em
  simp only [Option.map_eq_some_iff] at e3
  obtain ⟨kk, hk, rfl⟩ := e3
  obtain ⟨z1, z2⟩ := st.newO hp (.dK [])
  refine ⟨sd, W, y, s1, z1, e1, fun u H1 W1 st1 k1 r1 => ⟨s1, W1, d, sd', st1, e2, fun v H2 W2 st2 k2 r2 => ?_⟩⟩
  have hn : ¬ Own sd σ p := st.notOwn hp
  have kk2 := k1.trans k2
  have a1 : H2 p = some (.dK []) := kk2.keep p _ upd_same hn
  have a2 : W2 p = none := kk2.new p (st.free hp) (by rw [upd_same]; simp) hn
  have a3 : ¬ Own sd' σ p := fun z => (kk2.own p z).elim hn fun z => by rw [upd_same] at z; cases z
  have hk' := keyD_v r1 hk
  subst hk'
  refine ⟨a1, [(kk, v)], rfl, by simp, ?_⟩
  have kq := z2.trans kk2
  refine q p _ W2 (st2.mut a2 a3) ⟨kq.le, fun x o h n => ?_, kq.new, kq.own, fun x h => ?_⟩ ⟨a2, _, upd_same, .cons r2 .nil⟩ a3 hp
  · rw [upd_ne fun z => by rw [z, hp] at h; cases h]
    exact kq.keep x o h n
  · by_cases z : x = p
    · subst z; rw [upd_same]; simp
    · rw [upd_ne z]; exact kq.there x h
/-- e in y, y a dict with such keys, or what else may stand there -/
def inDK (x y : D) : Option D := match y with
  | .dic kvs => (keyD x).map fun k => .bl (valP kvs k).isSome
  | y => inD false x y
theorem rd_inDK {K : PySem.W.Frag} {mg : Str → Option Value} {r : R2} (hr : R2D K mg r (inD false)) : R2D K mg (orR r (rKIn false)) inDK := by
  intro x y z vx vy sd σ H W st hx hy hf Q q
  unfold inDK at hf
  split at hf
  · rename_i kvs
    refine .inr ?_
    simp only [Option.map_eq_some_iff] at hf
    obtain ⟨k, h1, rfl⟩ := hf
    have hk := keyD_v hx h1
    subst hk
    cases hy with
    | dic s r =>
      obtain ⟨o, g, e, _⟩ := dks_any (st.le _ _ s) r (k := k)
      exact ⟨_, o, rfl, g, by rw [e, Bool.false_xor]; exact q _ _ _ st Kp.refl (.bl _)⟩
  · exact .inl (hr x y z vx vy sd σ H W st hx hy hf Q q)
end
end Fli
set_option Elab.async false
set_option linter.all false
set_option maxRecDepth 100000
set_option maxHeartbeats 4000000
namespace Fli
open PySem L2
variable [HW]
/-! a call without arguments -/
section
variable {X : Cx} {k n : Nat} {N : List Str} {body : MS} {x : Str} {p pos : Pos}
theorem tL_nil {K : PySem.W.Frag} {mg : Str → Option Value} {σ : L2.St} {H : Hp} {Q : List V → Hp → Prop} (h : tL K mg (retM []) σ H Q) : tNil σ H Q := by
  obtain ⟨sd, W, d, sd', st, em, q⟩ := h
  cases em
  exact q [] H W st Kp.refl .nil
theorem e_callX0 (d : DefX X.prog X.w X.K X.mg X.base k x N [] [] body) (hr : Room k X.A) (hg : Gl X x) (hn : N.length = n) (hdb : (x == ("__debug__" : Str)) = false := by decide) :
    DE X (.Call (.Name x p) [] [] pos) (callD n body (retM []) []) := by
  obtain ⟨f, fd, F, hm, hk, hb⟩ := d
  exact PE.imp (pe_call0 F hr hg hm hk hb .nil pass0 hdb) fun σ H Q h => tL_nil (t_callD (E := E0) (dvs := []) (dd := []) hn (fun q s s' z => by cases z; rfl) (fun _ => .nil) h)
end
end Fli
set_option linter.all false
namespace Fli
/-! the search, layer by layer -/
section
variable {L E V : Type} [DecidableEq L]
def look (f : List (L × V)) (m : L) : Option V := (f.find? fun q => decide (q.1 = m)).map (·.2)
def visit (upd : V → E → L → V) (h : L) (st : List (L × V) × List L) (e : E × L) : List (L × V) × List L := match look st.1 e.2 with
  | some _ => st
  | none => match look st.1 h with
    | some v => (st.1 ++ [(e.2, upd v e.1 e.2)], st.2 ++ [e.2])
    | none => st
def expand (upd : V → E → L → V) (suc : L → List (E × L)) (st : List (L × V) × List L) (h : L) : List (L × V) × List L := (suc h).foldl (visit upd h) st
def layer (upd : V → E → L → V) (suc : L → List (E × L)) (st : List (L × V) × List L) : List (L × V) × List L := st.2.foldl (expand upd suc) (st.1, [])
def within (suc : L → List (E × L)) (l : L) : Nat → L → Prop
  | 0, m => m = l
  | k + 1, m => within suc l k m ∨ ∃ h e, within suc l k h ∧ (e, m) ∈ suc h
inductive Val (upd : V → E → L → V) (suc : L → List (E × L)) (l : L) (v0 : V) : Nat → L → V → Prop
  | z : Val upd suc l v0 0 l v0
  | s {k : Nat} {h m : L} {v : V} {e : E} : Val upd suc l v0 k h v → (e, m) ∈ suc h → Val upd suc l v0 (k + 1) m (upd v e m)
variable {upd : V → E → L → V} {suc : L → List (E × L)} {l : L} {v0 : V}
theorem within_mono {j k : Nat} {m : L} (h : j ≤ k) (w : within suc l j m) : within suc l k m := by
  induction h with
  | refl => exact w
  | step _ ih => exact .inl ih
theorem look_none {f : List (L × V)} {m : L} : look f m = none ↔ m ∉ f.map (·.1) := by
  unfold look
  rw [Option.map_eq_none_iff, List.find?_eq_none]
  constructor
  · intro h z
    obtain ⟨q, hq, e⟩ := List.mem_map.mp z
    exact h q hq (decide_eq_true e)
  · intro h q hq z
    exact h (List.mem_map.mpr ⟨q, hq, of_decide_eq_true z⟩)
theorem look_some {f : List (L × V)} {m : L} {v : V} (h : look f m = some v) : (m, v) ∈ f := by
  unfold look at h
  obtain ⟨q, hq, rfl⟩ := Option.map_eq_some_iff.mp h
  have e := List.find?_some hq
  have e : q.1 = m := of_decide_eq_true e
  subst e
  exact List.mem_of_find?_eq_some hq
theorem look_of {f : List (L × V)} {m : L} {v : V} (nd : (f.map (·.1)).Nodup) (h : (m, v) ∈ f) : look f m = some v := by
  cases e : look f m with
  | none => exact absurd (List.mem_map.mpr ⟨_, h, rfl⟩) (look_none.mp e)
  | some u =>
    have hu := look_some e
    clear e
    induction f with
    | nil => cases h
    | cons p f ih =>
      rw [List.map_cons, List.nodup_cons] at nd
      rcases List.mem_cons.mp h with e1 | h1
      · rcases List.mem_cons.mp hu with e2 | h2
        · rw [← e2] at e1; cases e1; rfl
        · exact absurd (List.mem_map.mpr ⟨_, h2, by rw [← e1]⟩) nd.1
      · rcases List.mem_cons.mp hu with e2 | h2
        · exact absurd (List.mem_map.mpr ⟨_, h1, by rw [← e2]⟩) nd.1
        · exact ih nd.2 h1 h2
/-- within a layer -/
structure InL (upd : V → E → L → V) (suc : L → List (E × L)) (f : List (L × V)) (lat : List L) (new : List (L × V)) : Prop where
  nd : ((f ++ new).map (·.1)).Nodup
  val : ∀ p ∈ new, ∃ h e vh, h ∈ lat ∧ (e, p.1) ∈ suc h ∧ (h, vh) ∈ f ∧ p.2 = upd vh e p.1
theorem visit_ok {f new : List (L × V)} {lat : List L} (i : InL upd suc f lat new) {h : L} {q : E × L} (hh : h ∈ lat) (hf : h ∈ f.map (·.1)) (hq : q ∈ suc h) : ∃ new', visit upd h (f ++ new, new.map (·.1)) q = (f ++ new', new'.map (·.1)) ∧ InL upd suc f lat new' ∧ (∃ r, new' = new ++ r) ∧ q.2 ∈ (f ++ new').map (·.1) := by
  unfold visit
  cases e : look (f ++ new) q.2 with
  | some v => exact ⟨new, by simp only [e], i, ⟨[], by simp⟩, List.mem_map.mpr ⟨_, look_some e, rfl⟩⟩
  | none =>
    have hn := look_none.mp e
    obtain ⟨p, hp, rfl⟩ := List.mem_map.mp hf
    have e2 : look (f ++ new) p.1 = some p.2 := look_of i.nd (List.mem_append_left _ hp)
    refine ⟨new ++ [(q.2, upd p.2 q.1 q.2)], by simp only [e, e2, List.append_assoc, List.map_append, List.map_cons, List.map_nil], ⟨?_, fun r hr => ?_⟩, ⟨_, rfl⟩, by simp⟩
    · rw [← List.append_assoc, List.map_append, List.nodup_append]
      exact ⟨i.nd, by simp, fun a ha b hb => by simp at hb; rw [hb]; exact fun z => hn (z ▸ ha)⟩
    · rcases List.mem_append.mp hr with hr | hr
      · exact i.val r hr
      · simp at hr
        subst hr
        exact ⟨p.1, q.1, p.2, hh, hq, hp, rfl⟩
theorem visits_ok {f : List (L × V)} {lat : List L} {h : L} (hh : h ∈ lat) (hf : h ∈ f.map (·.1)) : ∀ (qs : List (E × L)) (new : List (L × V)), InL upd suc f lat new → (∀ q ∈ qs, q ∈ suc h) → ∃ new', qs.foldl (visit upd h) (f ++ new, new.map (·.1)) = (f ++ new', new'.map (·.1)) ∧ InL upd suc f lat new' ∧ (∃ r, new' = new ++ r) ∧ ∀ q ∈ qs, q.2 ∈ (f ++ new').map (·.1)
  | [], new, i, _ => ⟨new, rfl, i, ⟨[], by simp⟩, fun _ hq => nomatch hq⟩
  | q :: qs, new, i, hs => by
    obtain ⟨n1, e1, i1, ⟨r1, x1⟩, m1⟩ := visit_ok i hh hf (hs q (by simp))
    obtain ⟨n2, e2, i2, ⟨r2, x2⟩, m2⟩ := visits_ok hh hf qs n1 i1 (fun q hq => hs q (by simp [hq]))
    refine ⟨n2, by rw [List.foldl_cons, e1, e2], i2, ⟨r1 ++ r2, by rw [x2, x1, List.append_assoc]⟩, fun z hz => ?_⟩
    rcases List.mem_cons.mp hz with e | hz
    · subst e
      rw [x2, ← List.append_assoc, List.map_append]
      exact List.mem_append_left _ m1
    · exact m2 z hz
theorem expands_ok {f : List (L × V)} {lat : List L} : ∀ (hs : List L) (new : List (L × V)), InL upd suc f lat new → (∀ h ∈ hs, h ∈ lat ∧ h ∈ f.map (·.1)) → ∃ new', hs.foldl (expand upd suc) (f ++ new, new.map (·.1)) = (f ++ new', new'.map (·.1)) ∧ InL upd suc f lat new' ∧ (∃ r, new' = new ++ r) ∧ ∀ h ∈ hs, ∀ q ∈ suc h, q.2 ∈ (f ++ new').map (·.1)
  | [], new, i, _ => ⟨new, rfl, i, ⟨[], by simp⟩, fun _ hq => nomatch hq⟩
  | h :: hs, new, i, hl => by
    obtain ⟨n1, e1, i1, ⟨r1, x1⟩, m1⟩ := visits_ok (upd := upd) (suc := suc) (hl h (by simp)).1 (hl h (by simp)).2 (suc h) new i (fun q hq => hq)
    obtain ⟨n2, e2, i2, ⟨r2, x2⟩, m2⟩ := expands_ok hs n1 i1 (fun q hq => hl q (by simp [hq]))
    refine ⟨n2, by rw [List.foldl_cons]; unfold expand at e2 ⊢; rw [e1, e2], i2, ⟨r1 ++ r2, by rw [x2, x1, List.append_assoc]⟩, fun z hz q hq => ?_⟩
    rcases List.mem_cons.mp hz with e | hz
    · subst e
      rw [x2, ← List.append_assoc, List.map_append]
      exact List.mem_append_left _ (m1 q hq)
    · exact m2 z hz q hq
/-- behind k layers -/
structure Lay (upd : V → E → L → V) (suc : L → List (E × L)) (l : L) (v0 : V) (k : Nat) (st : List (L × V) × List L) : Prop where
  nd : (st.1.map (·.1)).Nodup
  mem : ∀ m, m ∈ st.1.map (·.1) ↔ within suc l k m
  lat : ∀ m, m ∈ st.2 ↔ within suc l k m ∧ ∀ j, j < k → ¬ within suc l j m
  val : ∀ m v, (m, v) ∈ st.1 → ∃ j, j ≤ k ∧ Val upd suc l v0 j m v ∧ within suc l j m ∧ ∀ i, i < j → ¬ within suc l i m
theorem lay_0 : Lay upd suc l v0 0 ([(l, v0)], [l]) where
  nd := by simp
  mem m := by simp [within]
  lat m := by simp [within]
  val m v h := by
    simp at h
    obtain ⟨rfl, rfl⟩ := h
    exact ⟨0, Nat.le_refl _, .z, rfl, fun i hi => absurd hi (Nat.not_lt_zero _)⟩
theorem lay_s {k : Nat} {st : List (L × V) × List L} (y : Lay upd suc l v0 k st) : Lay upd suc l v0 (k + 1) (layer upd suc st) ∧ ∃ new, (layer upd suc st).1 = st.1 ++ new ∧ (layer upd suc st).2 = new.map (·.1) := by
  obtain ⟨f, lat⟩ := st
  have sub : ∀ h ∈ lat, h ∈ lat ∧ h ∈ f.map (·.1) := fun h hh => ⟨hh, (y.mem h).mpr ((y.lat h).mp hh).1⟩
  obtain ⟨new, e, i, _, m⟩ := expands_ok (upd := upd) (suc := suc) (f := f) (lat := lat) lat [] ⟨by simpa using y.nd, fun _ h => nomatch h⟩ sub
  have e : layer upd suc (f, lat) = (f ++ new, new.map (·.1)) := by
    unfold layer
    simpa using e
  rw [e]
  have keys : ∀ m, m ∈ (f ++ new).map (·.1) ↔ within suc l (k + 1) m := fun z => by
    constructor
    · intro h
      rw [List.map_append, List.mem_append] at h
      rcases h with h | h
      · exact .inl ((y.mem z).mp h)
      · obtain ⟨p, hp, rfl⟩ := List.mem_map.mp h
        obtain ⟨h, e, vh, h1, h2, _, _⟩ := i.val p hp
        exact .inr ⟨h, e, ((y.lat h).mp h1).1, h2⟩
    · rintro (h | ⟨h, e, h1, h2⟩)
      · rw [List.map_append]; exact List.mem_append_left _ ((y.mem z).mpr h)
      · by_cases hl : h ∈ lat
        · exact m h hl (e, z) h2
        · have : ¬ ∀ j, j < k → ¬ within suc l j h := fun q => hl ((y.lat h).mpr ⟨h1, q⟩)
          obtain ⟨j, hj, hw⟩ : ∃ j, j < k ∧ within suc l j h := Classical.byContradiction fun q => this fun j hj hw => q ⟨j, hj, hw⟩
          rw [List.map_append]
          exact List.mem_append_left _ ((y.mem z).mpr (within_mono (j := j + 1) (by omega) (.inr ⟨h, e, hw, h2⟩)))
  have knd : ∀ m, m ∈ new.map (·.1) → m ∉ f.map (·.1) := fun z hz hf => by
    have := i.nd
    rw [List.map_append, List.nodup_append] at this
    exact this.2.2 z hf z hz rfl
  refine ⟨⟨i.nd, keys, fun z => ?_, fun z v h => ?_⟩, new, rfl, rfl⟩
  · constructor
    · intro h
      refine ⟨(keys z).mp (by rw [List.map_append]; exact List.mem_append_right _ h), fun j hj w => knd z h ((y.mem z).mpr (within_mono (by omega) w))⟩
    · rintro ⟨h1, h2⟩
      have := (keys z).mpr h1
      rw [List.map_append, List.mem_append] at this
      rcases this with q | q
      · exact absurd ((y.mem z).mp q) (h2 k (by omega))
      · exact q
  · rcases List.mem_append.mp h with h | h
    · obtain ⟨j, h1, h2⟩ := y.val z v h
      exact ⟨j, by omega, h2⟩
    · obtain ⟨g, e, vh, h1, h2, h3, h4⟩ := i.val _ h
      simp only at h2 h4
      obtain ⟨j, j1, j2, j3, j4⟩ := y.val g vh h3
      have hj : j = k := by
        rcases Nat.lt_or_eq_of_le j1 with q | q
        · exact absurd j3 (((y.lat g).mp h1).2 j q)
        · exact q
      subst hj
      refine ⟨j + 1, Nat.le_refl _, ?_, (keys z).mp (List.mem_map.mpr ⟨(z, v), List.mem_append_right _ h, rfl⟩), fun i hi w => ?_⟩
      · rw [h4]; exact .s j2 h2
      · exact knd z (List.mem_map.mpr ⟨(z, v), h, rfl⟩) ((y.mem z).mpr (within_mono (by omega) w))
def iter (upd : V → E → L → V) (suc : L → List (E × L)) : Nat → List (L × V) × List L → List (L × V) × List L
  | 0, st => st
  | n + 1, st => iter upd suc n (layer upd suc st)
theorem lay_iter : ∀ (n : Nat) {k : Nat} {st : List (L × V) × List L}, Lay upd suc l v0 k st → Lay upd suc l v0 (k + n) (iter upd suc n st)
  | 0, _, _, y => y
  | n + 1, k, st, y => by
    have := lay_iter n (lay_s y).1
    rw [show k + (n + 1) = k + 1 + n by omega]
    exact this
theorem iter_nil : ∀ (n : Nat) {f : List (L × V)}, iter upd suc n (f, []) = (f, [])
  | 0, _ => rfl
  | n + 1, f => iter_nil n
theorem iter_add : ∀ (n m : Nat) {st : List (L × V) × List L}, iter upd suc (n + m) st = iter upd suc m (iter upd suc n st)
  | 0, m, st => by rw [Nat.zero_add]; rfl
  | n + 1, m, st => by rw [show n + 1 + m = (n + m) + 1 by omega]; exact iter_add n m
theorem sub_len {α : Type} [DecidableEq α] : ∀ {xs ys : List α}, xs.Nodup → (∀ x ∈ xs, x ∈ ys) → xs.length ≤ ys.length
  | [], _, _, _ => Nat.zero_le _
  | x :: xs, ys, nd, h => by
    rw [List.nodup_cons] at nd
    have hx := h x (by simp)
    have ih := sub_len (xs := xs) (ys := ys.erase x) nd.2 (fun y hy => by
      have ne : y ≠ x := fun e => nd.1 (by rw [← e]; exact hy)
      exact (List.mem_erase_of_ne ne).mpr (h y (by simp [hy])))
    rw [List.length_erase_of_mem hx] at ih
    have : 0 < ys.length := List.length_pos_of_mem hx
    rw [List.length_cons]; omega
/-- something new in each layer, or no more -/
theorem grows : ∀ (n : Nat) {k : Nat} {st : List (L × V) × List L}, Lay upd suc l v0 k st → (iter upd suc n st).2 ≠ [] → st.1.length + n ≤ (iter upd suc n st).1.length
  | 0, _, _, _, _ => Nat.le_refl _
  | n + 1, k, st, y, h => by
    obtain ⟨y1, new, e1, e2⟩ := lay_s y
    have ih := grows n y1 h
    have : new ≠ [] := fun z => by
      apply h
      show (iter upd suc n (layer upd suc st)).2 = []
      have : layer upd suc st = ((layer upd suc st).1, []) := Prod.ext rfl (by rw [e2, z]; rfl)
      rw [this, iter_nil]
    have : 0 < new.length := List.length_pos_iff.mpr this
    rw [e1, List.length_append] at ih
    show st.1.length + (n + 1) ≤ (iter upd suc n (layer upd suc st)).1.length
    omega
theorem ends {U : List L} (hU : ∀ h, h ∈ U → ∀ e m, (e, m) ∈ suc h → m ∈ U) (hl : l ∈ U) {n : Nat} (hn : U.length ≤ n) : (iter upd suc n ([(l, v0)], [l])).2 = [] := by
  have y := lay_iter n (lay_0 (upd := upd) (suc := suc) (l := l) (v0 := v0))
  refine Classical.byContradiction fun z => ?_
  have g := grows n (lay_0 (upd := upd) (suc := suc) (l := l) (v0 := v0)) z
  have wU : ∀ k m, within suc l k m → m ∈ U := by
    intro k
    induction k with
    | zero => intro m h; rw [show m = l from h]; exact hl
    | succ k ih =>
      rintro m (h | ⟨h, e, h1, h2⟩)
      · exact ih m h
      · exact hU h (ih h h1) e m h2
  have s := sub_len y.nd (fun m hm => wU _ m ((y.mem m).mp hm))
  rw [List.length_map] at s
  simp at g
  omega
/-- the while loop -/
def bfsW (upd : V → E → L → V) (suc : L → List (E × L)) : Nat → List (L × V) × List L → Option (List (L × V))
  | 0, _ => none
  | n + 1, st => if st.2 = [] then some st.1 else bfsW upd suc n (layer upd suc st)
theorem bfsW_iter : ∀ (n : Nat) {st : List (L × V) × List L}, (iter upd suc n st).2 = [] → bfsW upd suc (n + 1) st = some (iter upd suc n st).1
  | 0, st, h => by
    have h : st.2 = [] := h
    show (if st.2 = [] then some st.1 else _) = _
    rw [if_pos h]; rfl
  | n + 1, st, h => by
    show (if st.2 = [] then some st.1 else bfsW upd suc (n + 1) (layer upd suc st)) = _
    by_cases e : st.2 = []
    · rw [if_pos e]
      have : st = (st.1, []) := Prod.ext rfl e
      rw [this, iter_nil]
    · rw [if_neg e]; exact bfsW_iter n h
theorem bfsW_all {U : List L} (hU : ∀ h, h ∈ U → ∀ e m, (e, m) ∈ suc h → m ∈ U) (hl : l ∈ U) {n N : Nat} (hn : U.length ≤ n) (hN : n ≤ N) : bfsW upd suc (N + 1) ([(l, v0)], [l]) = some (iter upd suc n ([(l, v0)], [l])).1 := by
  have e0 := ends (upd := upd) (v0 := v0) hU hl hn
  have e1 : iter upd suc N ([(l, v0)], [l]) = iter upd suc n ([(l, v0)], [l]) := by
    obtain ⟨d, rfl⟩ := Nat.le.dest hN
    rw [iter_add]
    generalize iter upd suc n ([(l, v0)], [l]) = st at e0
    obtain ⟨f, lat⟩ := st
    have e0 : lat = [] := e0
    subst e0
    exact iter_nil d
  rw [bfsW_iter N (by rw [e1]; exact e0), e1]
end
end Fli
set_option Elab.async false
set_option linter.all false
set_option maxRecDepth 100000
set_option maxHeartbeats 8000000
namespace Fli
open PySem L2
def top (i : Nat) : Stmt := PySem.Challenge.pw_fliponce_k29_limits_and_samples.main.body.getD i (.Pass ⟨0, 0, 0, 0⟩)
section
variable [HW] {K : PySem.W.Frag} {mg : Str → Option Value} {base : Heap}
abbrev k_MOST_NAME : D := .int 8

abbrev k_MOST_SWITCHES : D := .int 10

abbrev k_MOST_RULES : D := .int 240

abbrev k_MOST_WISHED : D := .int 10

abbrev k_MOST_ROW : D := .int 1000

abbrev k_MOST_SEEN : D := .int 40

abbrev k_MOST_GIVEN : D := .int 10

abbrev k_SIGNS : D := .tup ((["+", "-"] : List Str).map D.str)

abbrev k_LETTERS : D := .str ("abcdefghijklmnopqrstuvwxyz" : Str)

abbrev k_LITERAL_WORDS : D := .tup ((["either", "needs", "bars"] : List Str).map D.str)

abbrev k_NAME_WORDS : D := .tup ((["same", "unlike"] : List Str).map D.str)

abbrev k_WORDS : D := .tup ((["be", "either", "needs", "bars", "same", "unlike"] : List Str).map D.str)

abbrev k_HEAD : D := .str ("switches " : Str)

abbrev k_CHAIN : D := .str ("switches a, b, c\nneeds +a +b\nneeds +b +c" : Str)

abbrev k_SHED : D := .str ("switches pump, valve, lamp, door\nbe +lamp\neither +pump -valve\nneeds +pump +valve\nbars +door +pump\nsame pump door\nunlike lamp door" : Str)

abbrev dd_Panel : List D := [.tup []]

abbrev s__law_bag : Stmt := top 38
abbrev N__law_bag : List Str := ["_law_script", "_law_k", "_law_held_cell", "_law_seed", "_law_this", "_law_held_signs"]
abbrev p__law_bag : List Str := ["_law_script", "_law_k"]
def m__law_bag : MS := (seqM (parM 2 3 (bindM (ifM (bindM (mBin (cmpD fun i j => decide (i < j)) (mVar 1) (bindM (bindM (mVar 0) fun d => bindM (retM []) fun ds => retM (d :: ds)) fun ds => optM (lenD ds))) fun d => optM (blD d)) (bindM (bindM (mBin atD (mVar 0) (mVar 1)) fun d => bindM (retM []) fun ds => retM (d :: ds)) fun ds => optM (intcD ds)) (retM (.int 0))) fun d => bindM (bindM (mBin mulD (retM (.int 93997)) (mBin addL (mVar 1) (retM (.int 5)))) fun d => bindM (retM []) fun ds => retM (d :: ds)) fun ds => retM (d :: ds)))
  (seqM (forL (slM slL (mVar 0) (retM none) (bindM (retM (.int 7)) fun d => optM ((intD d).map some))) (setF 4)
  (seqM (asgM (mBin modD (bindM (bindM (mBin addL (mBin addL (mBin mulD (mVar 3) (retM (.int 47717))) (mBin modD (bindM (bindM (mVar 4) fun d => bindM (retM []) fun ds => retM (d :: ds)) fun ds => optM (intcD ds)) (retM (.int 1000121)))) (mBin mulD (retM (.int 17)) (mVar 1))) fun d => bindM (retM []) fun ds => retM (d :: ds)) fun ds => optM (intcD ds)) (retM (.int 2147483549))) (setF 3))
  nxM))
  (seqM (asgM (ifM (orB (bindM (mBin (cmpD fun i j => decide (i < j)) (mVar 2) (retM (.int 0))) fun d => optM (blD d)) (bindM (mBin (cmpD fun i j => decide (j ≤ i)) (mVar 2) (mBin powD (retM (.int 10)) (retM (.int 15)))) fun d => optM (blD d))) (bindM (bindM (mVar 2) fun d => bindM (retM []) fun ds => retM (d :: ds)) fun ds => optM (absD ds)) (retM (.int 0))) (setF 5))
  (seqM (retOS (bindM (bindM (mVar 5) fun d => bindM (bindM (mBin modD (bindM (bindM (mBin addL (mVar 3) (mBin mulD (retM (.int 97003)) (mBin modD (bindM (bindM (mVar 2) fun d => bindM (retM []) fun ds => retM (d :: ds)) fun ds => optM (intcD ds)) (retM (.int 999931))))) fun d => bindM (retM []) fun ds => retM (d :: ds)) fun ds => optM (intcD ds)) (retM (.int 2147483549))) fun d => bindM (bindM (retM (.int 0)) fun d => bindM (retM []) fun ds => retM (d :: ds)) fun ds => retM (d :: ds)) fun ds => retM (d :: ds)) fun ds => optM (lstM ds)))
  nxM))))
theorem sc__law_bag : FnScope N__law_bag p__law_bag (defScope s__law_bag) := ⟨rfl, rfl, rfl, by decide +kernel, rfl, by decide +kernel, by decide +kernel⟩
theorem x__law_bag {f : Addr} {fd : FuncData} (F : Fun K "_law_bag" "_law_bag" s__law_bag f fd) (T : Txt K mg)  : FnOk HW.P HW.w K mg base CX0 1 f fd p__law_bag (spM K mg N__law_bag p__law_bag [] m__law_bag) := by
  refine def_ok (k := 0) F sc__law_bag fun cdv A outer s H E hr => ?_
  have nd := sc__law_bag.nd
  exact (ss_cons (s_par (i := 2) (j := 3) rfl rfl (by decide) rfl rfl (la_cons (e_if (b_cmp op_lt rd_cmp (e_var 1) (e_bi call_len cd_len rfl T.len (by decide +kernel) (la_cons (e_var 0) la_nil)) (nobehind _ (by decide) (by decide))) (e_ty call_int1 cd_int rfl T.int (by decide +kernel) (la_cons (e_ix (e_var 0) (e_var 1)) la_nil)) e_int) (la_cons (e_op op_mul rd_mul e_int (e_op op_addL rd_addL (e_var 1) e_int)) la_nil)) (by decide) (by decide) rfl nd)
  (ss_cons (s_forL (e_slA (e_var 0) ip_none (ip_some e_int)) (pg_name (i := 4) nd rfl (by first | exact Or.inl rfl | exact Or.inr rfl)) (tg_name (by decide))
  (ss_cons (s_asg (e_op op_modN rd_mod (e_ty call_int1 cd_int rfl T.int (by decide +kernel) (la_cons (e_op op_addL rd_addL (e_op op_addL rd_addL (e_op op_mul rd_mul (e_var 3) e_int) (e_op op_modN rd_mod (e_ty call_int1 cd_int rfl T.int (by decide +kernel) (la_cons (e_var 4) la_nil)) e_int)) (e_op op_mul rd_mul e_int (e_var 1))) la_nil)) e_int) (pg_name (i := 3) nd rfl (by first | exact Or.inl rfl | exact Or.inr rfl)) (tg_name (by decide)))
  ss_nil) rfl PassesOwn.never)
  (ss_cons (s_asg (e_if (b_w (bw_or (b_cmp op_lt rd_cmp (e_var 2) e_int (nobehind _ (by decide) (by decide))) (bw_o1 (b_cmp op_ge rd_cmp (e_var 2) (e_op op_pow rd_pow e_int e_int) (nobehind _ (by decide) (by decide)))))) (e_bi call_abs cd_abs rfl T.abs (by decide +kernel) (la_cons (e_var 2) la_nil)) e_int) (pg_name (i := 5) nd rfl (by first | exact Or.inl rfl | exact Or.inr rfl)) (tg_name (by decide)))
  (ss_cons (s_retO (o_lst (la_cons (e_var 5) (la_cons (e_op op_modN rd_mod (e_ty call_int1 cd_int rfl T.int (by decide +kernel) (la_cons (e_op op_addL rd_addL (e_var 3) (e_op op_mul rd_mul e_int (e_op op_modN rd_mod (e_ty call_int1 cd_int rfl T.int (by decide +kernel) (la_cons (e_var 2) la_nil)) e_int))) la_nil)) e_int) (la_cons e_int la_nil)))))
  ss_nil))))

abbrev s__law_draw : Stmt := top 39
abbrev N__law_draw : List Str := ["_law_bag_here", "_law_wide", "_law_figure", "_law_held", "_law_times"]
abbrev p__law_draw : List Str := ["_law_bag_here", "_law_wide"]
def m__law_draw : MS := (seqM (putN 0 (retM (.int 2)) (mBin addL (ixN 0 (retM (.int 2))) (retM (.int 1))))
  (seqM (ifS (bindM (mBin (cmpD fun i j => decide (j < i)) (ixN 0 (retM (.int 0))) (retM (.int 0))) fun d => optM (blD d)) (seqM (asgM (mBin modD (bindM (bindM (ixN 0 (retM (.int 0))) fun d => bindM (retM []) fun ds => retM (d :: ds)) fun ds => optM (intcD ds)) (mVar 1)) (setF 2))
  (seqM (putN 0 (retM (.int 0)) (mBin divD (ixN 0 (retM (.int 0))) (mVar 1)))
  (seqM (retMS (mVar 2))
  nxM))) nxM)
  (seqM (asgM (mBin addL (bindM (bindM (ixN 0 (retM (.int 1))) fun d => bindM (retM []) fun ds => retM (d :: ds)) fun ds => optM (intcD ds)) (mBin mulD (retM (.int 61001)) (ixN 0 (retM (.int 2))))) (setF 3))
  (seqM (asgM (mBin addL (mBin modD (bindM (bindM (mVar 3) fun d => bindM (retM []) fun ds => retM (d :: ds)) fun ds => optM (intcD ds)) (retM (.int 58013))) (retM (.int 47017))) (setF 4))
  (seqM (putN 0 (retM (.int 1)) (mBin modD (bindM (bindM (mBin addL (mBin addL (mBin mulD (mVar 3) (mVar 4)) (mBin mulD (retM (.int 11)) (ixN 0 (retM (.int 2))))) (retM (.int 19))) fun d => bindM (retM []) fun ds => retM (d :: ds)) fun ds => optM (intcD ds)) (retM (.int 2147483549))))
  (seqM (retMS (mBin modD (mBin divD (bindM (bindM (ixN 0 (retM (.int 1))) fun d => bindM (retM []) fun ds => retM (d :: ds)) fun ds => optM (intcD ds)) (retM (.int 509))) (mVar 1)))
  nxM))))))
theorem sc__law_draw : FnScope N__law_draw p__law_draw (defScope s__law_draw) := ⟨rfl, rfl, rfl, by decide +kernel, rfl, by decide +kernel, by decide +kernel⟩
theorem x__law_draw {f : Addr} {fd : FuncData} (F : Fun K "_law_draw" "_law_draw" s__law_draw f fd) (T : Txt K mg)  : FnOk HW.P HW.w K mg base CX0 1 f fd p__law_draw (spM K mg N__law_draw p__law_draw [0] m__law_draw) := by
  refine def_ok (k := 0) F sc__law_draw fun cdv A outer s H E hr => ?_
  have nd := sc__law_draw.nd
  exact (ss_cons (s_putN 0 (pv 0) e_int (e_op op_addL rd_addL (e_ixN 0 (pv 0) e_int) e_int))
  (ss_cons (s_if (b_cmp op_gt rd_cmp (e_ixN 0 (pv 0) e_int) e_int (nobehind _ (by decide) (by decide))) (ss_cons (s_asg (e_op op_modN rd_mod (e_ty call_int1 cd_int rfl T.int (by decide +kernel) (la_cons (e_ixN 0 (pv 0) e_int) la_nil)) (e_var 1)) (pg_name (i := 2) nd rfl (by first | exact Or.inl rfl | exact Or.inr rfl)) (tg_name (by decide)))
  (ss_cons (s_putN 0 (pv 0) e_int (e_op op_fdivN rd_div (e_ixN 0 (pv 0) e_int) (e_var 1)))
  (ss_cons (s_ret (e_var 2))
  ss_nil))) ss_nil)
  (ss_cons (s_asg (e_op op_addL rd_addL (e_ty call_int1 cd_int rfl T.int (by decide +kernel) (la_cons (e_ixN 0 (pv 0) e_int) la_nil)) (e_op op_mul rd_mul e_int (e_ixN 0 (pv 0) e_int))) (pg_name (i := 3) nd rfl (by first | exact Or.inl rfl | exact Or.inr rfl)) (tg_name (by decide)))
  (ss_cons (s_asg (e_op op_addL rd_addL (e_op op_modN rd_mod (e_ty call_int1 cd_int rfl T.int (by decide +kernel) (la_cons (e_var 3) la_nil)) e_int) e_int) (pg_name (i := 4) nd rfl (by first | exact Or.inl rfl | exact Or.inr rfl)) (tg_name (by decide)))
  (ss_cons (s_putN 0 (pv 0) e_int (e_op op_modN rd_mod (e_ty call_int1 cd_int rfl T.int (by decide +kernel) (la_cons (e_op op_addL rd_addL (e_op op_addL rd_addL (e_op op_mul rd_mul (e_var 3) (e_var 4)) (e_op op_mul rd_mul e_int (e_ixN 0 (pv 0) e_int))) e_int) la_nil)) e_int))
  (ss_cons (s_ret (e_op op_modN rd_mod (e_op op_fdivN rd_div (e_ty call_int1 cd_int rfl T.int (by decide +kernel) (la_cons (e_ixN 0 (pv 0) e_int) la_nil)) e_int) (e_var 1)))
  ss_nil))))))

abbrev s__law_one : Stmt := top 40
abbrev N__law_one : List Str := ["_law_bag_here", "_law_some"]
abbrev p__law_one : List Str := ["_law_bag_here", "_law_some"]
def m__law_one : MS := (seqM (retMS (mBin atD (mVar 1) (lendD 5 m__law_draw 0 (bindM (bindM (bindM (mVar 1) fun d => bindM (retM []) fun ds => retM (d :: ds)) fun ds => optM (lenD ds)) fun d => bindM (retM []) fun ds => retM (d :: ds)))))
  nxM)
theorem sc__law_one : FnScope N__law_one p__law_one (defScope s__law_one) := ⟨rfl, rfl, rfl, by decide +kernel, rfl, by decide +kernel, by decide +kernel⟩
theorem x__law_one {f : Addr} {fd : FuncData} (F : Fun K "_law_one" "_law_one" s__law_one f fd) (T : Txt K mg) (d__law_draw : DefX HW.P HW.w K mg base 1 "_law_draw" N__law_draw p__law_draw [0] m__law_draw) : FnOk HW.P HW.w K mg base CX0 2 f fd p__law_one (spM K mg N__law_one p__law_one [0] m__law_one) := by
  refine def_ok (k := 1) F sc__law_one fun cdv A outer s H E hr => ?_
  have nd := sc__law_one.nd
  exact (ss_cons (s_ret (e_ix (e_var 1) (e_lendX 0 d__law_draw (hr.mono (by decide)) rfl rfl (pv 0) (la_cons (e_bi call_len cd_len rfl T.len (by decide +kernel) (la_cons (e_var 1) la_nil)) la_nil) (len_cons len_nil) rfl)))
  ss_nil)

abbrev s__law_names : Stmt := top 41
abbrev N__law_names : List Str := ["_law_bag_here", "_law_many", "_law_pool", "_law_k"]
abbrev p__law_names : List Str := ["_law_bag_here", "_law_many"]
def m__law_names : MS := (seqM (asgO (bindM (bindM (retM (.str ("a" : Str))) fun d => bindM (bindM (retM (.str ("b" : Str))) fun d => bindM (bindM (retM (.str ("c" : Str))) fun d => bindM (bindM (retM (.str ("ab" : Str))) fun d => bindM (bindM (retM (.str ("lamp" : Str))) fun d => bindM (bindM (retM (.str ("on" : Str))) fun d => bindM (bindM (retM (.str ("switches" : Str))) fun d => bindM (bindM (retM (.str ("x" : Str))) fun d => bindM (bindM (retM (.str ("abcdefgh" : Str))) fun d => bindM (bindM (retM (.str ("aa" : Str))) fun d => bindM (bindM (retM (.str ("z" : Str))) fun d => bindM (bindM (retM (.str ("not" : Str))) fun d => bindM (bindM (retM (.str ("y" : Str))) fun d => bindM (bindM (retM (.str ("ba" : Str))) fun d => bindM (retM []) fun ds => retM (d :: ds)) fun ds => retM (d :: ds)) fun ds => retM (d :: ds)) fun ds => retM (d :: ds)) fun ds => retM (d :: ds)) fun ds => retM (d :: ds)) fun ds => retM (d :: ds)) fun ds => retM (d :: ds)) fun ds => retM (d :: ds)) fun ds => retM (d :: ds)) fun ds => retM (d :: ds)) fun ds => retM (d :: ds)) fun ds => retM (d :: ds)) fun ds => retM (d :: ds)) fun ds => optM (lstM ds)) 2)
  (seqM (retMS (bindM (bindM (bindM (cplR (bindM (mVar 1) fun d => bindM (retM []) fun ds => retM (d :: ds)) rng1 [3] (setF 3) (retM true) (popN 2 (lendD 5 m__law_draw 0 (bindM (lenN 2) fun d => bindM (retM []) fun ds => retM (d :: ds))))) fun o => retM o.d) fun d => bindM (retM []) fun ds => retM (d :: ds)) fun ds => optM (tupcD ds)))
  nxM))
theorem sc__law_names : FnScope N__law_names p__law_names (defScope s__law_names) := ⟨rfl, rfl, rfl, by decide +kernel, rfl, by decide +kernel, by decide +kernel⟩
theorem x__law_names {f : Addr} {fd : FuncData} (F : Fun K "_law_names" "_law_names" s__law_names f fd) (T : Txt K mg) (d__law_draw : DefX HW.P HW.w K mg base 1 "_law_draw" N__law_draw p__law_draw [0] m__law_draw) : FnOk HW.P HW.w K mg base CX0 2 f fd p__law_names (spM K mg N__law_names p__law_names [0] m__law_names) := by
  refine def_ok (k := 1) F sc__law_names fun cdv A outer s H E hr => ?_
  have nd := sc__law_names.nd
  exact (ss_cons (s_asgO (o_lst (la_cons e_str (la_cons e_str (la_cons e_str (la_cons e_str (la_cons e_str (la_cons e_str (la_cons e_str (la_cons e_str (la_cons e_str (la_cons e_str (la_cons e_str (la_cons e_str (la_cons e_str (la_cons e_str la_nil))))))))))))))) (pg_name (i := 2) nd rfl (by first | exact Or.inl rfl | exact Or.inr rfl)) (by decide))
  (ss_cons (s_ret (e_ty call_tupleF cd_tup rfl T.tuple (by decide +kernel) (la_cons (e_frz (o_lc1 (own := [("_law_k", 3)]) (vs := [3]) rfl rfl nd (la_cons (e_var 1) la_nil) rfl T.range (blkOk_by (N := N__law_names) (sc := defScope s__law_names) (by decide +kernel)) (fun _ _ _ _ _ => (pg_name (i := 3) nd rfl (by first | exact Or.inl rfl | exact Or.inr rfl))) (tg_name (by decide)) (tw_name (by decide)) (fun _ _ _ _ _ => pts_0) (fun _ _ _ _ _ => (e_popN 2 (pv 2) (e_lendX 0 d__law_draw (hr.mono (by decide)) rfl rfl (pv 0) (la_cons (e_lenN 2 (pv 2) rfl T.len) la_nil) (len_cons len_nil) rfl))))) la_nil)))
  ss_nil))

abbrev s__law_holds : Stmt := top 45
abbrev N__law_holds : List Str := ["_law_names_here", "_law_literal", "_law_setting"]
abbrev p__law_holds : List Str := ["_law_names_here", "_law_literal", "_law_setting"]
def m__law_holds : MS := (seqM (retMS (mBin (eqD false) (mBin atD (mVar 2) (mBin tixD (mVar 0) (mBin atD (mVar 1) (retM (.int 0))))) (mBin atD (mVar 1) (retM (.int 1)))))
  nxM)
theorem sc__law_holds : FnScope N__law_holds p__law_holds (defScope s__law_holds) := ⟨rfl, rfl, rfl, by decide +kernel, rfl, by decide +kernel, by decide +kernel⟩
theorem x__law_holds {f : Addr} {fd : FuncData} (F : Fun K "_law_holds" "_law_holds" s__law_holds f fd) (T : Txt K mg)  : FnOk HW.P HW.w K mg base CX0 1 f fd p__law_holds (spM K mg N__law_holds p__law_holds [] m__law_holds) := by
  refine def_ok (k := 0) F sc__law_holds fun cdv A outer s H E hr => ?_
  have nd := sc__law_holds.nd
  exact (ss_cons (s_ret (e_cmp (op_eqD hr.units) rd_eq (e_ix (e_var 2) (e_tix (e_var 0) (e_ix (e_var 1) e_int))) (e_ix (e_var 1) e_int) (nobehind _ (by decide) (by decide))))
  ss_nil)

abbrev s__law_keeps : Stmt := top 46
abbrev N__law_keeps : List Str := ["_law_names_here", "_law_rule_here", "_law_setting", "_law_near", "_law_far"]
abbrev p__law_keeps : List Str := ["_law_names_here", "_law_rule_here", "_law_setting"]
def m__law_keeps : MS := (seqM (ifS (bindM (mBin (eqD false) (mBin atD (mVar 1) (retM (.int 0))) (retM (.str ("be" : Str)))) fun d => optM (blD d)) (seqM (retMS (callD 3 m__law_holds (bindM (mVar 0) fun d => bindM (bindM (mBin atD (mVar 1) (retM (.int 1))) fun d => bindM (bindM (mVar 2) fun d => bindM (retM []) fun ds => retM (d :: ds)) fun ds => retM (d :: ds)) fun ds => retM (d :: ds)) []))
  nxM) nxM)
  (seqM (ifS (bindM (mBin (inD false) (mBin atD (mVar 1) (retM (.int 0))) (bindM (bindM (bindM (retM (.str ("same" : Str))) fun d => bindM (bindM (retM (.str ("unlike" : Str))) fun d => bindM (retM []) fun ds => retM (d :: ds)) fun ds => retM (d :: ds)) fun ds => optM (lstM ds)) fun o => retM o.d)) fun d => optM (blD d)) (seqM (asgM (mBin atD (mVar 2) (mBin tixD (mVar 0) (mBin atD (mVar 1) (retM (.int 1))))) (setF 3))
  (seqM (asgM (mBin atD (mVar 2) (mBin tixD (mVar 0) (mBin atD (mVar 1) (retM (.int 2))))) (setF 4))
  (seqM (retMS (mBin (eqD false) (mBin (eqD false) (mVar 3) (mVar 4)) (mBin (eqD false) (mBin atD (mVar 1) (retM (.int 0))) (retM (.str ("same" : Str))))))
  nxM))) nxM)
  (seqM (parM 3 4 (bindM (callD 3 m__law_holds (bindM (mVar 0) fun d => bindM (bindM (mBin atD (mVar 1) (retM (.int 1))) fun d => bindM (bindM (mVar 2) fun d => bindM (retM []) fun ds => retM (d :: ds)) fun ds => retM (d :: ds)) fun ds => retM (d :: ds)) []) fun d => bindM (bindM (callD 3 m__law_holds (bindM (mVar 0) fun d => bindM (bindM (mBin atD (mVar 1) (retM (.int 2))) fun d => bindM (bindM (mVar 2) fun d => bindM (retM []) fun ds => retM (d :: ds)) fun ds => retM (d :: ds)) fun ds => retM (d :: ds)) []) fun d => bindM (retM []) fun ds => retM (d :: ds)) fun ds => retM (d :: ds)))
  (seqM (ifS (bindM (mBin (eqD false) (mBin atD (mVar 1) (retM (.int 0))) (retM (.str ("either" : Str)))) fun d => optM (blD d)) (seqM (retMS (orV (mVar 3) (mVar 4)))
  nxM) nxM)
  (seqM (retMS (ifM (bindM (mBin (eqD false) (mBin atD (mVar 1) (retM (.int 0))) (retM (.str ("needs" : Str)))) fun d => optM (blD d)) (orV (bindM (mVar 3) fun d => optM (notD d)) (mVar 4)) (bindM (andV (mVar 3) (mVar 4)) fun d => optM (notD d))))
  nxM)))))
theorem sc__law_keeps : FnScope N__law_keeps p__law_keeps (defScope s__law_keeps) := ⟨rfl, rfl, rfl, by decide +kernel, rfl, by decide +kernel, by decide +kernel⟩
theorem x__law_keeps {f : Addr} {fd : FuncData} (F : Fun K "_law_keeps" "_law_keeps" s__law_keeps f fd) (T : Txt K mg) (d__law_holds : DefX HW.P HW.w K mg base 1 "_law_holds" N__law_holds p__law_holds [] m__law_holds) : FnOk HW.P HW.w K mg base CX0 2 f fd p__law_keeps (spM K mg N__law_keeps p__law_keeps [] m__law_keeps) := by
  refine def_ok (k := 1) F sc__law_keeps fun cdv A outer s H E hr => ?_
  have nd := sc__law_keeps.nd
  exact (ss_cons (s_if (b_cmp (op_eqD hr.units) rd_eq (e_ix (e_var 1) e_int) e_str (nobehind _ (by decide) (by decide))) (ss_cons (s_ret (e_callX d__law_holds (hr.mono (by decide)) rfl rfl (la_cons (e_var 0) (la_cons (e_ix (e_var 1) e_int) (la_cons (e_var 2) la_nil))) (len_cons (len_cons (len_cons len_nil))) rfl))
  ss_nil) ss_nil)
  (ss_cons (s_if (b_cmp op_inA rd_in (e_ix (e_var 1) e_int) (e_frz (o_lst (la_cons e_str (la_cons e_str la_nil)))) (by rfl)) (ss_cons (s_asg (e_ix (e_var 2) (e_tix (e_var 0) (e_ix (e_var 1) e_int))) (pg_name (i := 3) nd rfl (by first | exact Or.inl rfl | exact Or.inr rfl)) (tg_name (by decide)))
  (ss_cons (s_asg (e_ix (e_var 2) (e_tix (e_var 0) (e_ix (e_var 1) e_int))) (pg_name (i := 4) nd rfl (by first | exact Or.inl rfl | exact Or.inr rfl)) (tg_name (by decide)))
  (ss_cons (s_ret (e_cmp (op_eqD hr.units) rd_eq (e_cmp (op_eqD hr.units) rd_eq (e_var 3) (e_var 4) (nobehind _ (by decide) (by decide))) (e_cmp (op_eqD hr.units) rd_eq (e_ix (e_var 1) e_int) e_str (nobehind _ (by decide) (by decide))) (nobehind _ (by decide) (by decide))))
  ss_nil))) ss_nil)
  (ss_cons (s_par (i := 3) (j := 4) rfl rfl (by decide) rfl rfl (la_cons (e_callX d__law_holds (hr.mono (by decide)) rfl rfl (la_cons (e_var 0) (la_cons (e_ix (e_var 1) e_int) (la_cons (e_var 2) la_nil))) (len_cons (len_cons (len_cons len_nil))) rfl) (la_cons (e_callX d__law_holds (hr.mono (by decide)) rfl rfl (la_cons (e_var 0) (la_cons (e_ix (e_var 1) e_int) (la_cons (e_var 2) la_nil))) (len_cons (len_cons (len_cons len_nil))) rfl) la_nil)) (by decide) (by decide) rfl nd)
  (ss_cons (s_if (b_cmp (op_eqD hr.units) rd_eq (e_ix (e_var 1) e_int) e_str (nobehind _ (by decide) (by decide))) (ss_cons (s_ret (e_or (e_var 3) (e_1 (e_var 4))))
  ss_nil) ss_nil)
  (ss_cons (s_ret (e_if (b_cmp (op_eqD hr.units) rd_eq (e_ix (e_var 1) e_int) e_str (nobehind _ (by decide) (by decide))) (e_or (e_not (e_var 3)) (e_1 (e_var 4))) (e_not (e_and (e_var 3) (e_1 (e_var 4))))))
  ss_nil)))))

abbrev s__law_rule : Stmt := top 42
abbrev N__law_rule : List Str := ["_law_bag_here", "_law_names_here", "_law_base", "_law_off", "_law_turn", "_law_word", "_law_rule_here", "_law_x", "_law_y", "_law_near", "_law_far"]
abbrev p__law_rule : List Str := ["_law_bag_here", "_law_names_here", "_law_base", "_law_off"]
def m__law_rule : MS := (seqM (forR (bindM (retM (.int 30)) fun d => bindM (retM []) fun ds => retM (d :: ds)) rng1 (setF 4)
  (seqM (parM 7 8 (bindM (lendD 5 m__law_draw 0 (bindM (bindM (bindM (mVar 1) fun d => bindM (retM []) fun ds => retM (d :: ds)) fun ds => optM (lenD ds)) fun d => bindM (retM []) fun ds => retM (d :: ds))) fun d => bindM (bindM (lendD 5 m__law_draw 0 (bindM (bindM (bindM (mVar 1) fun d => bindM (retM []) fun ds => retM (d :: ds)) fun ds => optM (lenD ds)) fun d => bindM (retM []) fun ds => retM (d :: ds))) fun d => bindM (retM []) fun ds => retM (d :: ds)) fun ds => retM (d :: ds)))
  (seqM (parM 9 10 (bindM (bindM (bindM (mBin atD (mVar 1) (mVar 7)) fun d => bindM (bindM (mBin atD (retM (.str ("+-" : Str))) (lendD 5 m__law_draw 0 (bindM (retM (.int 2)) fun d => bindM (retM []) fun ds => retM (d :: ds)))) fun d => bindM (retM []) fun ds => retM (d :: ds)) fun ds => retM (d :: ds)) fun ds => optM (tupM ds)) fun d => bindM (bindM (bindM (bindM (mBin atD (mVar 1) (mVar 8)) fun d => bindM (bindM (mBin atD (retM (.str ("+-" : Str))) (lendD 5 m__law_draw 0 (bindM (retM (.int 2)) fun d => bindM (retM []) fun ds => retM (d :: ds)))) fun d => bindM (retM []) fun ds => retM (d :: ds)) fun ds => retM (d :: ds)) fun ds => optM (tupM ds)) fun d => bindM (retM []) fun ds => retM (d :: ds)) fun ds => retM (d :: ds)))
  (seqM (asgM (lendD 2 m__law_one 0 (bindM (bindM (bindM (bindM (retM (.str ("either" : Str))) fun d => bindM (bindM (retM (.str ("needs" : Str))) fun d => bindM (bindM (retM (.str ("needs" : Str))) fun d => bindM (bindM (retM (.str ("bars" : Str))) fun d => bindM (bindM (retM (.str ("same" : Str))) fun d => bindM (bindM (retM (.str ("unlike" : Str))) fun d => bindM (bindM (retM (.str ("be" : Str))) fun d => bindM (retM []) fun ds => retM (d :: ds)) fun ds => retM (d :: ds)) fun ds => retM (d :: ds)) fun ds => retM (d :: ds)) fun ds => retM (d :: ds)) fun ds => retM (d :: ds)) fun ds => retM (d :: ds)) fun ds => optM (lstM ds)) fun o => retM o.d) fun d => bindM (retM []) fun ds => retM (d :: ds))) (setF 5))
  (seqM (asgM (ifM (bindM (mBin (inD false) (mVar 5) (bindM (bindM (bindM (retM (.str ("same" : Str))) fun d => bindM (bindM (retM (.str ("unlike" : Str))) fun d => bindM (retM []) fun ds => retM (d :: ds)) fun ds => retM (d :: ds)) fun ds => optM (lstM ds)) fun o => retM o.d)) fun d => optM (blD d)) (bindM (bindM (mVar 5) fun d => bindM (bindM (mBin atD (mVar 1) (mVar 7)) fun d => bindM (bindM (mBin atD (mVar 1) (mVar 8)) fun d => bindM (retM []) fun ds => retM (d :: ds)) fun ds => retM (d :: ds)) fun ds => retM (d :: ds)) fun ds => optM (tupM ds)) (bindM (bindM (mVar 5) fun d => bindM (bindM (mVar 9) fun d => bindM (bindM (mVar 10) fun d => bindM (retM []) fun ds => retM (d :: ds)) fun ds => retM (d :: ds)) fun ds => retM (d :: ds)) fun ds => optM (tupM ds))) (setF 6))
  (seqM (asgM (ifM (orB (bindM (mBin (eqD false) (mVar 5) (retM (.str ("be" : Str)))) fun d => optM (blD d)) (bindM (mBin (eqD false) (mVar 7) (mVar 8)) fun d => optM (blD d))) (bindM (bindM (retM (.str ("be" : Str))) fun d => bindM (bindM (mVar 9) fun d => bindM (retM []) fun ds => retM (d :: ds)) fun ds => retM (d :: ds)) fun ds => optM (tupM ds)) (mVar 6)) (setF 6))
  (seqM (ifS (orB (bindM (mBin (eqD false) (mVar 3) (retM (.int 1))) fun d => optM (blD d)) (bindM (callD 5 m__law_keeps (bindM (mVar 1) fun d => bindM (bindM (mVar 6) fun d => bindM (bindM (mVar 2) fun d => bindM (retM []) fun ds => retM (d :: ds)) fun ds => retM (d :: ds)) fun ds => retM (d :: ds)) []) fun d => optM (truD d))) (seqM (retMS (mVar 6))
  nxM) nxM)
  nxM)))))))
  (seqM (retMS (bindM (bindM (retM (.str ("be" : Str))) fun d => bindM (bindM (bindM (bindM (mBin atD (mVar 1) (retM (.int 0))) fun d => bindM (bindM (mBin atD (mVar 2) (retM (.int 0))) fun d => bindM (retM []) fun ds => retM (d :: ds)) fun ds => retM (d :: ds)) fun ds => optM (tupM ds)) fun d => bindM (retM []) fun ds => retM (d :: ds)) fun ds => retM (d :: ds)) fun ds => optM (tupM ds)))
  nxM))
theorem sc__law_rule : FnScope N__law_rule p__law_rule (defScope s__law_rule) := ⟨rfl, rfl, rfl, by decide +kernel, rfl, by decide +kernel, by decide +kernel⟩
theorem x__law_rule {f : Addr} {fd : FuncData} (F : Fun K "_law_rule" "_law_rule" s__law_rule f fd) (T : Txt K mg) (d__law_draw : DefX HW.P HW.w K mg base 1 "_law_draw" N__law_draw p__law_draw [0] m__law_draw) (d__law_one : DefX HW.P HW.w K mg base 2 "_law_one" N__law_one p__law_one [0] m__law_one) (d__law_keeps : DefX HW.P HW.w K mg base 2 "_law_keeps" N__law_keeps p__law_keeps [] m__law_keeps) : FnOk HW.P HW.w K mg base CX0 3 f fd p__law_rule (spM K mg N__law_rule p__law_rule [0] m__law_rule) := by
  refine def_ok (k := 2) F sc__law_rule fun cdv A outer s H E hr => ?_
  have nd := sc__law_rule.nd
  exact (ss_cons (s_for1 (la_cons e_int la_nil) rfl T.range (pg_name (i := 4) nd rfl (by first | exact Or.inl rfl | exact Or.inr rfl)) (tg_name (by decide))
  (ss_cons (s_par (i := 7) (j := 8) rfl rfl (by decide) rfl rfl (la_cons (e_lendX 0 d__law_draw (hr.mono (by decide)) rfl rfl (pv 0) (la_cons (e_bi call_len cd_len rfl T.len (by decide +kernel) (la_cons (e_var 1) la_nil)) la_nil) (len_cons len_nil) rfl) (la_cons (e_lendX 0 d__law_draw (hr.mono (by decide)) rfl rfl (pv 0) (la_cons (e_bi call_len cd_len rfl T.len (by decide +kernel) (la_cons (e_var 1) la_nil)) la_nil) (len_cons len_nil) rfl) la_nil)) (by decide) (by decide) rfl nd)
  (ss_cons (s_par (i := 9) (j := 10) rfl rfl (by decide) rfl rfl (la_cons (e_tup (la_cons (e_ix (e_var 1) (e_var 7)) (la_cons (e_ix e_str (e_lendX 0 d__law_draw (hr.mono (by decide)) rfl rfl (pv 0) (la_cons e_int la_nil) (len_cons len_nil) rfl)) la_nil))) (la_cons (e_tup (la_cons (e_ix (e_var 1) (e_var 8)) (la_cons (e_ix e_str (e_lendX 0 d__law_draw (hr.mono (by decide)) rfl rfl (pv 0) (la_cons e_int la_nil) (len_cons len_nil) rfl)) la_nil))) la_nil)) (by decide) (by decide) rfl nd)
  (ss_cons (s_asg (e_lendX 0 d__law_one (hr.mono (by decide)) rfl rfl (pv 0) (la_cons (e_frz (o_lst (la_cons e_str (la_cons e_str (la_cons e_str (la_cons e_str (la_cons e_str (la_cons e_str (la_cons e_str la_nil))))))))) la_nil) (len_cons len_nil) rfl) (pg_name (i := 5) nd rfl (by first | exact Or.inl rfl | exact Or.inr rfl)) (tg_name (by decide)))
  (ss_cons (s_asg (e_if (b_cmp op_inA rd_in (e_var 5) (e_frz (o_lst (la_cons e_str (la_cons e_str la_nil)))) (by rfl)) (e_tup (la_cons (e_var 5) (la_cons (e_ix (e_var 1) (e_var 7)) (la_cons (e_ix (e_var 1) (e_var 8)) la_nil)))) (e_tup (la_cons (e_var 5) (la_cons (e_var 9) (la_cons (e_var 10) la_nil))))) (pg_name (i := 6) nd rfl (by first | exact Or.inl rfl | exact Or.inr rfl)) (tg_name (by decide)))
  (ss_cons (s_asg (e_if (b_w (bw_or (b_cmp (op_eqD hr.units) rd_eq (e_var 5) e_str (nobehind _ (by decide) (by decide))) (bw_o1 (b_cmp (op_eqD hr.units) rd_eq (e_var 7) (e_var 8) (nobehind _ (by decide) (by decide)))))) (e_tup (la_cons e_str (la_cons (e_var 9) la_nil))) (e_var 6)) (pg_name (i := 6) nd rfl (by first | exact Or.inl rfl | exact Or.inr rfl)) (tg_name (by decide)))
  (ss_cons (s_if (b_w (bw_or (b_cmp (op_eqD hr.units) rd_eq (e_var 3) e_int (nobehind _ (by decide) (by decide))) (bw_o1 (b_tru (e_callX d__law_keeps (hr.mono (by decide)) rfl rfl (la_cons (e_var 1) (la_cons (e_var 6) (la_cons (e_var 2) la_nil))) (len_cons (len_cons (len_cons len_nil))) rfl))))) (ss_cons (s_ret (e_var 6))
  ss_nil) ss_nil)
  ss_nil)))))) rfl PassesOwn.never)
  (ss_cons (s_ret (e_tup (la_cons e_str (la_cons (e_tup (la_cons (e_ix (e_var 1) e_int) (la_cons (e_ix (e_var 2) e_int) la_nil))) la_nil))))
  ss_nil))

abbrev s__law_panel : Stmt := top 43
abbrev N__law_panel : List Str := ["_law_bag_here", "_law_wide", "_law_most", "_law_names_here", "_law_base", "_law_name", "_law_found", "_law_k"]
abbrev p__law_panel : List Str := ["_law_bag_here", "_law_wide", "_law_most"]
def m__law_panel : MS := (seqM (asgM (lendD 4 m__law_names 0 (bindM (mBin addL (retM (.int 1)) (lendD 5 m__law_draw 0 (bindM (mVar 1) fun d => bindM (retM []) fun ds => retM (d :: ds)))) fun d => bindM (retM []) fun ds => retM (d :: ds))) (setF 3))
  (seqM (asgM (mBin joinD (retM (.str ("" : Str))) (bindM (cplL (mVar 3) [5] (setF 5) (retM true) (mBin atD (retM (.str ("+-" : Str))) (lendD 5 m__law_draw 0 (bindM (retM (.int 2)) fun d => bindM (retM []) fun ds => retM (d :: ds))))) fun o => retM o.d)) (setF 4))
  (seqM (asgO (cplR (bindM (lendD 5 m__law_draw 0 (bindM (mBin addL (mVar 2) (retM (.int 1))) fun d => bindM (retM []) fun ds => retM (d :: ds))) fun d => bindM (retM []) fun ds => retM (d :: ds)) rng1 [7] (setF 7) (retM true) (lendD 11 m__law_rule 0 (bindM (mVar 3) fun d => bindM (bindM (mVar 4) fun d => bindM (bindM (retM (.int 0)) fun d => bindM (retM []) fun ds => retM (d :: ds)) fun ds => retM (d :: ds)) fun ds => retM (d :: ds)))) 6)
  (seqM (ifS (bindM (mBin (eqD false) (lendD 5 m__law_draw 0 (bindM (retM (.int 8)) fun d => bindM (retM []) fun ds => retM (d :: ds))) (retM (.int 0))) fun d => optM (blD d)) (seqM (appN 6 (lendD 11 m__law_rule 0 (bindM (mVar 3) fun d => bindM (bindM (mVar 4) fun d => bindM (bindM (retM (.int 1)) fun d => bindM (retM []) fun ds => retM (d :: ds)) fun ds => retM (d :: ds)) fun ds => retM (d :: ds))))
  nxM) nxM)
  (seqM (retOS (bindM (bindM (mVar 3) fun d => bindM (bindM (bindM (bindM (frzN 6) fun d => bindM (retM []) fun ds => retM (d :: ds)) fun ds => optM (tupcD ds)) fun d => bindM (bindM (mVar 4) fun d => bindM (retM []) fun ds => retM (d :: ds)) fun ds => retM (d :: ds)) fun ds => retM (d :: ds)) fun ds => optM (lstM ds)))
  nxM)))))
theorem sc__law_panel : FnScope N__law_panel p__law_panel (defScope s__law_panel) := ⟨rfl, rfl, rfl, by decide +kernel, rfl, by decide +kernel, by decide +kernel⟩
theorem x__law_panel {f : Addr} {fd : FuncData} (F : Fun K "_law_panel" "_law_panel" s__law_panel f fd) (T : Txt K mg) (d__law_names : DefX HW.P HW.w K mg base 2 "_law_names" N__law_names p__law_names [0] m__law_names) (d__law_draw : DefX HW.P HW.w K mg base 1 "_law_draw" N__law_draw p__law_draw [0] m__law_draw) (d__law_rule : DefX HW.P HW.w K mg base 3 "_law_rule" N__law_rule p__law_rule [0] m__law_rule) : FnOk HW.P HW.w K mg base CX0 4 f fd p__law_panel (spM K mg N__law_panel p__law_panel [0] m__law_panel) := by
  refine def_ok (k := 3) F sc__law_panel fun cdv A outer s H E hr => ?_
  have nd := sc__law_panel.nd
  exact (ss_cons (s_asg (e_lendX 0 d__law_names (hr.mono (by decide)) rfl rfl (pv 0) (la_cons (e_op op_addL rd_addL e_int (e_lendX 0 d__law_draw (hr.mono (by decide)) rfl rfl (pv 0) (la_cons (e_var 1) la_nil) (len_cons len_nil) rfl)) la_nil) (len_cons len_nil) rfl) (pg_name (i := 3) nd rfl (by first | exact Or.inl rfl | exact Or.inr rfl)) (tg_name (by decide)))
  (ss_cons (s_asg (e_join e_str (e_frz (o_lcL (own := [("_law_name", 5)]) (vs := [5]) rfl rfl nd (e_var 3) (blkOk_by (N := N__law_panel) (sc := defScope s__law_panel) (by decide +kernel)) (fun _ _ _ _ _ => (pg_name (i := 5) nd rfl (by first | exact Or.inl rfl | exact Or.inr rfl))) (tg_name (by decide)) (tw_name (by decide)) (fun _ _ _ _ _ => pts_0) (fun _ _ _ _ _ => (e_ix e_str (e_lendX 0 d__law_draw (hr.mono (by decide)) rfl rfl (pv 0) (la_cons e_int la_nil) (len_cons len_nil) rfl)))))) (pg_name (i := 4) nd rfl (by first | exact Or.inl rfl | exact Or.inr rfl)) (tg_name (by decide)))
  (ss_cons (s_setLc1 (own := [("_law_k", 7)]) (vs := [7]) rfl rfl nd (la_cons (e_lendX 0 d__law_draw (hr.mono (by decide)) rfl rfl (pv 0) (la_cons (e_op op_addL rd_addL (e_var 2) e_int) la_nil) (len_cons len_nil) rfl) la_nil) rfl T.range (blkOk_by (N := N__law_panel) (sc := defScope s__law_panel) (by decide +kernel)) (fun _ _ _ _ _ => (pg_name (i := 7) nd rfl (by first | exact Or.inl rfl | exact Or.inr rfl))) (tg_name (by decide)) (tw_name (by decide)) (fun _ _ _ _ _ => pts_0) (fun _ _ _ _ _ => (e_lendX 0 d__law_rule (hr.mono (by decide)) rfl rfl (pv 0) (la_cons (e_var 3) (la_cons (e_var 4) (la_cons e_int la_nil))) (len_cons (len_cons (len_cons len_nil))) rfl)) rfl rfl (by decide))
  (ss_cons (s_if (b_cmp (op_eqD hr.units) rd_eq (e_lendX 0 d__law_draw (hr.mono (by decide)) rfl rfl (pv 0) (la_cons e_int la_nil) (len_cons len_nil) rfl) e_int (nobehind _ (by decide) (by decide))) (ss_cons (s_appN 6 (pv 6) (e_lendX 0 d__law_rule (hr.mono (by decide)) rfl rfl (pv 0) (la_cons (e_var 3) (la_cons (e_var 4) (la_cons e_int la_nil))) (len_cons (len_cons (len_cons len_nil))) rfl))
  ss_nil) ss_nil)
  (ss_cons (s_retO (o_lst (la_cons (e_var 3) (la_cons (e_ty call_tupleF cd_tup rfl T.tuple (by decide +kernel) (la_cons (e_frzN 6 (pv 6)) la_nil)) (la_cons (e_var 4) la_nil)))))
  ss_nil)))))

end
end Fli
set_option Elab.async false
set_option linter.all false
set_option maxRecDepth 100000
set_option maxHeartbeats 8000000
namespace Fli
open PySem L2
section
variable [HW] {K : PySem.W.Frag} {mg : Str → Option Value} {base : Heap}
abbrev s_is_name : Stmt := top 18
abbrev N_is_name : List Str := ["value", "letter"]
abbrev p_is_name : List Str := ["value"]
def m_is_name : MS := (seqM (ifS (orB (bindM (bindM (bindM (mVar 0) fun d => optM (isB "str" d)) fun d => optM (truD d)) fun k => retM !k) (bindM (mBin (inD false) (mVar 0) (retM k_WORDS)) fun d => optM (blD d))) (seqM (retMS (retM (.bl false)))
  nxM) nxM)
  (seqM (retMS (andV (chM (cmpD fun i j => decide (i ≤ j)) (cmpD fun i j => decide (i ≤ j)) (retM (.int 1)) (bindM (bindM (mVar 0) fun d => bindM (retM []) fun ds => retM (d :: ds)) fun ds => optM (lenD ds)) (retM k_MOST_NAME)) (bindM (bindM (bindM (cplL (mVar 0) [1] (setF 1) (retM true) (mBin (inD false) (mVar 1) (retM k_LETTERS))) fun o => retM o.d) fun d => bindM (retM []) fun ds => retM (d :: ds)) fun ds => optM (allD ds))))
  nxM))
theorem sc_is_name : FnScope N_is_name p_is_name (defScope s_is_name) := ⟨rfl, rfl, rfl, by decide +kernel, rfl, by decide +kernel, by decide +kernel⟩
theorem x_is_name {f : Addr} {fd : FuncData} (F : Fun K "is_name" "is_name" s_is_name f fd) (T : Txt K mg) (c_WORDS : ConD K mg "WORDS" k_WORDS) (c_LETTERS : ConD K mg "LETTERS" k_LETTERS) (c_MOST_NAME : ConD K mg "MOST_NAME" k_MOST_NAME) : FnOk HW.P HW.w K mg base CX0 1 f fd p_is_name (spM K mg N_is_name p_is_name [] m_is_name) := by
  refine def_ok (k := 0) F sc_is_name fun cdv A outer s H E hr => ?_
  have nd := sc_is_name.nd
  exact (ss_cons (s_if (b_w (bw_or (b_not (b_tru (e_isB (e_var 0) rfl T.isinstance (pe_bltn rfl T.str (by decide +kernel) rfl)))) (bw_o1 (b_cmp op_inA rd_in (e_var 0) (ConD.dE c_WORDS rfl) (by rfl))))) (ss_cons (s_ret e_bl)
  ss_nil) ss_nil)
  (ss_cons (s_ret (e_and (e_chain op_le op_le rd_cmp rd_cmp e_int (e_bi call_len cd_len rfl T.len (by decide +kernel) (la_cons (e_var 0) la_nil)) (ConD.dE c_MOST_NAME rfl)) (e_1 (e_bi (cr_all rfl) cd_all rfl T.all (by decide +kernel) (la_cons (e_frz (o_lcL (own := [("letter", 1)]) (vs := [1]) rfl rfl nd (e_var 0) (blkOk_by (N := N_is_name) (sc := defScope s_is_name) (by decide +kernel)) (fun _ _ _ _ _ => (pg_name (i := 1) nd rfl (by first | exact Or.inl rfl | exact Or.inr rfl))) (tg_name (by decide)) (tw_name (by decide)) (fun _ _ _ _ _ => pts_0) (fun _ _ _ _ _ => (e_cmp op_inA rd_in (e_var 1) (ConD.dE c_LETTERS rfl) (by rfl))))) la_nil)))))
  ss_nil))

abbrev s_is_switch : Stmt := top 19
abbrev N_is_switch : List Str := ["switches", "value"]
abbrev p_is_switch : List Str := ["switches", "value"]
def m_is_switch : MS := (seqM (retMS (andV (bindM (mVar 1) fun d => optM (isB "str" d)) (mBin (inD false) (mVar 1) (mVar 0))))
  nxM)
theorem sc_is_switch : FnScope N_is_switch p_is_switch (defScope s_is_switch) := ⟨rfl, rfl, rfl, by decide +kernel, rfl, by decide +kernel, by decide +kernel⟩
theorem x_is_switch {f : Addr} {fd : FuncData} (F : Fun K "is_switch" "is_switch" s_is_switch f fd) (T : Txt K mg)  : FnOk HW.P HW.w K mg base CX0 1 f fd p_is_switch (spM K mg N_is_switch p_is_switch [] m_is_switch) := by
  refine def_ok (k := 0) F sc_is_switch fun cdv A outer s H E hr => ?_
  have nd := sc_is_switch.nd
  exact (ss_cons (s_ret (e_and (e_isB (e_var 1) rfl T.isinstance (pe_bltn rfl T.str (by decide +kernel) rfl)) (e_1 (e_cmp op_inA rd_in (e_var 1) (e_var 0) (by rfl)))))
  ss_nil)

abbrev s_is_sign : Stmt := top 20
abbrev N_is_sign : List Str := ["value"]
abbrev p_is_sign : List Str := ["value"]
def m_is_sign : MS := (seqM (retMS (andV (bindM (mVar 0) fun d => optM (isB "str" d)) (mBin (inD false) (mVar 0) (retM k_SIGNS))))
  nxM)
theorem sc_is_sign : FnScope N_is_sign p_is_sign (defScope s_is_sign) := ⟨rfl, rfl, rfl, by decide +kernel, rfl, by decide +kernel, by decide +kernel⟩
theorem x_is_sign {f : Addr} {fd : FuncData} (F : Fun K "is_sign" "is_sign" s_is_sign f fd) (T : Txt K mg) (c_SIGNS : ConD K mg "SIGNS" k_SIGNS) : FnOk HW.P HW.w K mg base CX0 1 f fd p_is_sign (spM K mg N_is_sign p_is_sign [] m_is_sign) := by
  refine def_ok (k := 0) F sc_is_sign fun cdv A outer s H E hr => ?_
  have nd := sc_is_sign.nd
  exact (ss_cons (s_ret (e_and (e_isB (e_var 0) rfl T.isinstance (pe_bltn rfl T.str (by decide +kernel) rfl)) (e_1 (e_cmp op_inA rd_in (e_var 0) (ConD.dE c_SIGNS rfl) (by rfl)))))
  ss_nil)

abbrev s_is_literal : Stmt := top 21
abbrev N_is_literal : List Str := ["switches", "value"]
abbrev p_is_literal : List Str := ["switches", "value"]
def m_is_literal : MS := (seqM (ifS (orB (bindM (bindM (bindM (mVar 1) fun d => optM (isB "tuple" d)) fun d => optM (truD d)) fun k => retM !k) (bindM (mBin (eqD true) (bindM (bindM (mVar 1) fun d => bindM (retM []) fun ds => retM (d :: ds)) fun ds => optM (lenD ds)) (retM (.int 2))) fun d => optM (blD d))) (seqM (retMS (retM (.bl false)))
  nxM) nxM)
  (seqM (retMS (andV (callD 2 m_is_switch (bindM (mVar 0) fun d => bindM (bindM (mBin atD (mVar 1) (retM (.int 0))) fun d => bindM (retM []) fun ds => retM (d :: ds)) fun ds => retM (d :: ds)) []) (callD 1 m_is_sign (bindM (mBin atD (mVar 1) (retM (.int 1))) fun d => bindM (retM []) fun ds => retM (d :: ds)) [])))
  nxM))
theorem sc_is_literal : FnScope N_is_literal p_is_literal (defScope s_is_literal) := ⟨rfl, rfl, rfl, by decide +kernel, rfl, by decide +kernel, by decide +kernel⟩
theorem x_is_literal {f : Addr} {fd : FuncData} (F : Fun K "is_literal" "is_literal" s_is_literal f fd) (T : Txt K mg) (d_is_sign : DefX HW.P HW.w K mg base 1 "is_sign" N_is_sign p_is_sign [] m_is_sign) (d_is_switch : DefX HW.P HW.w K mg base 1 "is_switch" N_is_switch p_is_switch [] m_is_switch) : FnOk HW.P HW.w K mg base CX0 2 f fd p_is_literal (spM K mg N_is_literal p_is_literal [] m_is_literal) := by
  refine def_ok (k := 1) F sc_is_literal fun cdv A outer s H E hr => ?_
  have nd := sc_is_literal.nd
  exact (ss_cons (s_if (b_w (bw_or (b_not (b_tru (e_isB (e_var 1) rfl T.isinstance (pe_bltn rfl T.tuple (by decide +kernel) rfl)))) (bw_o1 (b_cmp (op_neD hr.units) rd_ne (e_bi call_len cd_len rfl T.len (by decide +kernel) (la_cons (e_var 1) la_nil)) e_int (nobehind _ (by decide) (by decide)))))) (ss_cons (s_ret e_bl)
  ss_nil) ss_nil)
  (ss_cons (s_ret (e_and (e_callX d_is_switch (hr.mono (by decide)) rfl rfl (la_cons (e_var 0) (la_cons (e_ix (e_var 1) e_int) la_nil)) (len_cons (len_cons len_nil)) rfl) (e_1 (e_callX d_is_sign (hr.mono (by decide)) rfl rfl (la_cons (e_ix (e_var 1) e_int) la_nil) (len_cons len_nil) rfl))))
  ss_nil))

abbrev s_is_rule : Stmt := top 22
abbrev N_is_rule : List Str := ["switches", "value", "word", "first", "second"]
abbrev p_is_rule : List Str := ["switches", "value"]
def m_is_rule : MS := (seqM (ifS (orB (bindM (bindM (bindM (mVar 1) fun d => optM (isB "tuple" d)) fun d => optM (truD d)) fun k => retM !k) (orB (bindM (bindM (chM (cmpD fun i j => decide (i ≤ j)) (cmpD fun i j => decide (i ≤ j)) (retM (.int 2)) (bindM (bindM (mVar 1) fun d => bindM (retM []) fun ds => retM (d :: ds)) fun ds => optM (lenD ds)) (retM (.int 3))) fun d => optM (blD d)) fun k => retM !k) (bindM (bindM (bindM (mBin atD (mVar 1) (retM (.int 0))) fun d => optM (isB "str" d)) fun d => optM (truD d)) fun k => retM !k))) (seqM (retMS (retM (.bl false)))
  nxM) nxM)
  (seqM (ifS (bindM (mBin (eqD false) (bindM (bindM (mVar 1) fun d => bindM (retM []) fun ds => retM (d :: ds)) fun ds => optM (lenD ds)) (retM (.int 2))) fun d => optM (blD d)) (seqM (retMS (andV (mBin (eqD false) (mBin atD (mVar 1) (retM (.int 0))) (retM (.str ("be" : Str)))) (callD 2 m_is_literal (bindM (mVar 0) fun d => bindM (bindM (mBin atD (mVar 1) (retM (.int 1))) fun d => bindM (retM []) fun ds => retM (d :: ds)) fun ds => retM (d :: ds)) [])))
  nxM) nxM)
  (seqM (asgM (mVar 1) (tupF 3 (consF (setF 2) (consF (setF 3) (consF (setF 4) nilF)))))
  (seqM (ifS (bindM (mBin (inD false) (mVar 2) (retM k_LITERAL_WORDS)) fun d => optM (blD d)) (seqM (retMS (andV (callD 2 m_is_literal (bindM (mVar 0) fun d => bindM (bindM (mVar 3) fun d => bindM (retM []) fun ds => retM (d :: ds)) fun ds => retM (d :: ds)) []) (andV (callD 2 m_is_literal (bindM (mVar 0) fun d => bindM (bindM (mVar 4) fun d => bindM (retM []) fun ds => retM (d :: ds)) fun ds => retM (d :: ds)) []) (mBin (eqD true) (mBin atD (mVar 3) (retM (.int 0))) (mBin atD (mVar 4) (retM (.int 0)))))))
  nxM) nxM)
  (seqM (ifS (bindM (mBin (inD false) (mVar 2) (retM k_NAME_WORDS)) fun d => optM (blD d)) (seqM (retMS (andV (callD 2 m_is_switch (bindM (mVar 0) fun d => bindM (bindM (mVar 3) fun d => bindM (retM []) fun ds => retM (d :: ds)) fun ds => retM (d :: ds)) []) (andV (callD 2 m_is_switch (bindM (mVar 0) fun d => bindM (bindM (mVar 4) fun d => bindM (retM []) fun ds => retM (d :: ds)) fun ds => retM (d :: ds)) []) (mBin (eqD true) (mVar 3) (mVar 4)))))
  nxM) nxM)
  (seqM (retMS (retM (.bl false)))
  nxM))))))
theorem sc_is_rule : FnScope N_is_rule p_is_rule (defScope s_is_rule) := ⟨rfl, rfl, rfl, by decide +kernel, rfl, by decide +kernel, by decide +kernel⟩
theorem x_is_rule {f : Addr} {fd : FuncData} (F : Fun K "is_rule" "is_rule" s_is_rule f fd) (T : Txt K mg) (c_LITERAL_WORDS : ConD K mg "LITERAL_WORDS" k_LITERAL_WORDS) (c_NAME_WORDS : ConD K mg "NAME_WORDS" k_NAME_WORDS) (d_is_literal : DefX HW.P HW.w K mg base 2 "is_literal" N_is_literal p_is_literal [] m_is_literal) (d_is_switch : DefX HW.P HW.w K mg base 1 "is_switch" N_is_switch p_is_switch [] m_is_switch) : FnOk HW.P HW.w K mg base CX0 3 f fd p_is_rule (spM K mg N_is_rule p_is_rule [] m_is_rule) := by
  refine def_ok (k := 2) F sc_is_rule fun cdv A outer s H E hr => ?_
  have nd := sc_is_rule.nd
  exact (ss_cons (s_if (b_w (bw_or (b_not (b_tru (e_isB (e_var 1) rfl T.isinstance (pe_bltn rfl T.tuple (by decide +kernel) rfl)))) (bw_or (b_not (b_chain op_le op_le rd_cmp rd_cmp e_int (e_bi call_len cd_len rfl T.len (by decide +kernel) (la_cons (e_var 1) la_nil)) e_int)) (bw_o1 (b_not (b_tru (e_isB (e_ix (e_var 1) e_int) rfl T.isinstance (pe_bltn rfl T.str (by decide +kernel) rfl)))))))) (ss_cons (s_ret e_bl)
  ss_nil) ss_nil)
  (ss_cons (s_if (b_cmp (op_eqD hr.units) rd_eq (e_bi call_len cd_len rfl T.len (by decide +kernel) (la_cons (e_var 1) la_nil)) e_int (nobehind _ (by decide) (by decide))) (ss_cons (s_ret (e_and (e_cmp (op_eqD hr.units) rd_eq (e_ix (e_var 1) e_int) e_str (nobehind _ (by decide) (by decide))) (e_1 (e_callX d_is_literal (hr.mono (by decide)) rfl rfl (la_cons (e_var 0) (la_cons (e_ix (e_var 1) e_int) la_nil)) (len_cons (len_cons len_nil)) rfl))))
  ss_nil) ss_nil)
  (ss_cons (s_asg (e_var 1) (pg_tup rfl (pgs_cons (pg_name (i := 2) nd rfl (by first | exact Or.inl rfl | exact Or.inr rfl)) (pgs_cons (pg_name (i := 3) nd rfl (by first | exact Or.inl rfl | exact Or.inr rfl)) (pgs_cons (pg_name (i := 4) nd rfl (by first | exact Or.inl rfl | exact Or.inr rfl)) pgs_nil)))) (tg_tup (tg_cons (tg_name (by decide)) (tg_cons (tg_name (by decide)) (tg_cons (tg_name (by decide)) tg_nil)))))
  (ss_cons (s_if (b_cmp op_inA rd_in (e_var 2) (ConD.dE c_LITERAL_WORDS rfl) (by rfl)) (ss_cons (s_ret (e_and (e_callX d_is_literal (hr.mono (by decide)) rfl rfl (la_cons (e_var 0) (la_cons (e_var 3) la_nil)) (len_cons (len_cons len_nil)) rfl) (e_and (e_callX d_is_literal (hr.mono (by decide)) rfl rfl (la_cons (e_var 0) (la_cons (e_var 4) la_nil)) (len_cons (len_cons len_nil)) rfl) (e_1 (e_cmp (op_neD hr.units) rd_ne (e_ix (e_var 3) e_int) (e_ix (e_var 4) e_int) (nobehind _ (by decide) (by decide)))))))
  ss_nil) ss_nil)
  (ss_cons (s_if (b_cmp op_inA rd_in (e_var 2) (ConD.dE c_NAME_WORDS rfl) (by rfl)) (ss_cons (s_ret (e_and (e_callX d_is_switch (hr.mono (by decide)) rfl rfl (la_cons (e_var 0) (la_cons (e_var 3) la_nil)) (len_cons (len_cons len_nil)) rfl) (e_and (e_callX d_is_switch (hr.mono (by decide)) rfl rfl (la_cons (e_var 0) (la_cons (e_var 4) la_nil)) (len_cons (len_cons len_nil)) rfl) (e_1 (e_cmp (op_neD hr.units) rd_ne (e_var 3) (e_var 4) (nobehind _ (by decide) (by decide)))))))
  ss_nil) ss_nil)
  (ss_cons (s_ret e_bl)
  ss_nil))))))

abbrev s_check_switches : Stmt := top 23
abbrev N_check_switches : List Str := ["switches", "index", "name"]
abbrev p_check_switches : List Str := ["switches"]
def m_check_switches : MS := (seqM (ifS (orB (bindM (bindM (bindM (mVar 0) fun d => optM (isB "tuple" d)) fun d => optM (truD d)) fun k => retM !k) (bindM (mBin (eqD false) (bindM (bindM (mVar 0) fun d => bindM (retM []) fun ds => retM (d :: ds)) fun ds => optM (lenD ds)) (retM (.int 0))) fun d => optM (blD d))) (seqM stuckM
  nxM) nxM)
  (seqM (forE (mVar 0) (consF (setF 1) (consF (setF 2) nilF))
  (seqM (ifS (orB (bindM (mBin (cmpD fun i j => decide (j ≤ i)) (mVar 1) (retM k_MOST_SWITCHES)) fun d => optM (blD d)) (orB (bindM (bindM (callD 2 m_is_name (bindM (mVar 2) fun d => bindM (retM []) fun ds => retM (d :: ds)) []) fun d => optM (truD d)) fun k => retM !k) (bindM (mBin (inD false) (mVar 2) (slM slL (mVar 0) (retM none) (bindM (mVar 1) fun d => optM ((intD d).map some)))) fun d => optM (blD d)))) (seqM stuckM
  nxM) nxM)
  nxM))
  nxM))
theorem sc_check_switches : FnScope N_check_switches p_check_switches (defScope s_check_switches) := ⟨rfl, rfl, rfl, by decide +kernel, rfl, by decide +kernel, by decide +kernel⟩
theorem x_check_switches {f : Addr} {fd : FuncData} (F : Fun K "check_switches" "check_switches" s_check_switches f fd) (T : Txt K mg) (c_MOST_SWITCHES : ConD K mg "MOST_SWITCHES" k_MOST_SWITCHES) (d_is_name : DefX HW.P HW.w K mg base 1 "is_name" N_is_name p_is_name [] m_is_name) : FnOk HW.P HW.w K mg base CX0 2 f fd p_check_switches (spM K mg N_check_switches p_check_switches [] m_check_switches) := by
  refine def_ok (k := 1) F sc_check_switches fun cdv A outer s H E hr => ?_
  have nd := sc_check_switches.nd
  exact (ss_cons (s_if (b_w (bw_or (b_not (b_tru (e_isB (e_var 0) rfl T.isinstance (pe_bltn rfl T.tuple (by decide +kernel) rfl)))) (bw_o1 (b_cmp (op_eqD hr.units) rd_eq (e_bi call_len cd_len rfl T.len (by decide +kernel) (la_cons (e_var 0) la_nil)) e_int (nobehind _ (by decide) (by decide)))))) (ss_cons s_never
  ss_nil) ss_nil)
  (ss_cons (s_forE (e_var 0) rfl T.enumerate (pg_tup rfl (pgs_cons (pg_name (i := 1) nd rfl (by first | exact Or.inl rfl | exact Or.inr rfl)) (pgs_cons (pg_name (i := 2) nd rfl (by first | exact Or.inl rfl | exact Or.inr rfl)) pgs_nil))) (tg_cons (tg_name (by decide)) (tg_cons (tg_name (by decide)) tg_nil))
  (ss_cons (s_if (b_w (bw_or (b_cmp op_ge rd_cmp (e_var 1) (ConD.dE c_MOST_SWITCHES rfl) (nobehind _ (by decide) (by decide))) (bw_or (b_not (b_tru (e_callX d_is_name (hr.mono (by decide)) rfl rfl (la_cons (e_var 2) la_nil) (len_cons len_nil) rfl))) (bw_o1 (b_cmp op_inA rd_in (e_var 2) (e_slA (e_var 0) ip_none (ip_some (e_var 1))) (by rfl)))))) (ss_cons s_never
  ss_nil) ss_nil)
  ss_nil) rfl PassesOwn.never)
  ss_nil))

abbrev s_check_rules : Stmt := top 24
abbrev N_check_rules : List Str := ["switches", "rules", "index", "rule"]
abbrev p_check_rules : List Str := ["switches", "rules"]
def m_check_rules : MS := (seqM (ifS (bindM (bindM (bindM (mVar 1) fun d => optM (isB "tuple" d)) fun d => optM (truD d)) fun k => retM !k) (seqM stuckM
  nxM) nxM)
  (seqM (forE (mVar 1) (consF (setF 2) (consF (setF 3) nilF))
  (seqM (ifS (orB (bindM (mBin (cmpD fun i j => decide (j ≤ i)) (mVar 2) (retM k_MOST_RULES)) fun d => optM (blD d)) (bindM (bindM (callD 5 m_is_rule (bindM (mVar 0) fun d => bindM (bindM (mVar 3) fun d => bindM (retM []) fun ds => retM (d :: ds)) fun ds => retM (d :: ds)) []) fun d => optM (truD d)) fun k => retM !k)) (seqM stuckM
  nxM) nxM)
  nxM))
  nxM))
theorem sc_check_rules : FnScope N_check_rules p_check_rules (defScope s_check_rules) := ⟨rfl, rfl, rfl, by decide +kernel, rfl, by decide +kernel, by decide +kernel⟩
theorem x_check_rules {f : Addr} {fd : FuncData} (F : Fun K "check_rules" "check_rules" s_check_rules f fd) (T : Txt K mg) (c_MOST_RULES : ConD K mg "MOST_RULES" k_MOST_RULES) (d_is_rule : DefX HW.P HW.w K mg base 3 "is_rule" N_is_rule p_is_rule [] m_is_rule) : FnOk HW.P HW.w K mg base CX0 4 f fd p_check_rules (spM K mg N_check_rules p_check_rules [] m_check_rules) := by
  refine def_ok (k := 3) F sc_check_rules fun cdv A outer s H E hr => ?_
  have nd := sc_check_rules.nd
  exact (ss_cons (s_if (b_not (b_tru (e_isB (e_var 1) rfl T.isinstance (pe_bltn rfl T.tuple (by decide +kernel) rfl)))) (ss_cons s_never
  ss_nil) ss_nil)
  (ss_cons (s_forE (e_var 1) rfl T.enumerate (pg_tup rfl (pgs_cons (pg_name (i := 2) nd rfl (by first | exact Or.inl rfl | exact Or.inr rfl)) (pgs_cons (pg_name (i := 3) nd rfl (by first | exact Or.inl rfl | exact Or.inr rfl)) pgs_nil))) (tg_cons (tg_name (by decide)) (tg_cons (tg_name (by decide)) tg_nil))
  (ss_cons (s_if (b_w (bw_or (b_cmp op_ge rd_cmp (e_var 2) (ConD.dE c_MOST_RULES rfl) (nobehind _ (by decide) (by decide))) (bw_o1 (b_not (b_tru (e_callX d_is_rule (hr.mono (by decide)) rfl rfl (la_cons (e_var 0) (la_cons (e_var 3) la_nil)) (len_cons (len_cons len_nil)) rfl)))))) (ss_cons s_never
  ss_nil) ss_nil)
  ss_nil) rfl PassesOwn.never)
  ss_nil))

abbrev s_literal_text : Stmt := top 27
abbrev N_literal_text : List Str := ["literal", "name", "sign"]
abbrev p_literal_text : List Str := ["literal"]
def m_literal_text : MS := (seqM (asgM (mVar 0) (tupF 2 (consF (setF 1) (consF (setF 2) nilF))))
  (seqM (retMS (mBin addL (mVar 2) (mVar 1)))
  nxM))
theorem sc_literal_text : FnScope N_literal_text p_literal_text (defScope s_literal_text) := ⟨rfl, rfl, rfl, by decide +kernel, rfl, by decide +kernel, by decide +kernel⟩
theorem x_literal_text {f : Addr} {fd : FuncData} (F : Fun K "literal_text" "literal_text" s_literal_text f fd) (T : Txt K mg)  : FnOk HW.P HW.w K mg base CX0 1 f fd p_literal_text (spM K mg N_literal_text p_literal_text [] m_literal_text) := by
  refine def_ok (k := 0) F sc_literal_text fun cdv A outer s H E hr => ?_
  have nd := sc_literal_text.nd
  exact (ss_cons (s_asg (e_var 0) (pg_tup rfl (pgs_cons (pg_name (i := 1) nd rfl (by first | exact Or.inl rfl | exact Or.inr rfl)) (pgs_cons (pg_name (i := 2) nd rfl (by first | exact Or.inl rfl | exact Or.inr rfl)) pgs_nil))) (tg_tup (tg_cons (tg_name (by decide)) (tg_cons (tg_name (by decide)) tg_nil))))
  (ss_cons (s_ret (e_op op_addL rd_addL (e_var 2) (e_var 1)))
  ss_nil))

abbrev s_rule_text : Stmt := top 28
abbrev N_rule_text : List Str := ["rule", "word", "literal"]
abbrev p_rule_text : List Str := ["rule"]
def m_rule_text : MS := (seqM (asgM (mBin atD (mVar 0) (retM (.int 0))) (setF 1))
  (seqM (ifS (bindM (mBin (inD false) (mVar 1) (retM k_NAME_WORDS)) fun d => optM (blD d)) (seqM (retMS (mBin joinD (retM (.str (" " : Str))) (mVar 0)))
  nxM) nxM)
  (seqM (retMS (mBin joinD (retM (.str (" " : Str))) (mBin addL (bindM (bindM (bindM (mVar 1) fun d => bindM (retM []) fun ds => retM (d :: ds)) fun ds => optM (lstM ds)) fun o => retM o.d) (bindM (cplL (slM slL (mVar 0) (bindM (retM (.int 1)) fun d => optM ((intD d).map some)) (retM none)) [2] (setF 2) (retM true) (callD 3 m_literal_text (bindM (mVar 2) fun d => bindM (retM []) fun ds => retM (d :: ds)) [])) fun o => retM o.d))))
  nxM)))
theorem sc_rule_text : FnScope N_rule_text p_rule_text (defScope s_rule_text) := ⟨rfl, rfl, rfl, by decide +kernel, rfl, by decide +kernel, by decide +kernel⟩
theorem x_rule_text {f : Addr} {fd : FuncData} (F : Fun K "rule_text" "rule_text" s_rule_text f fd) (T : Txt K mg) (c_NAME_WORDS : ConD K mg "NAME_WORDS" k_NAME_WORDS) (d_literal_text : DefX HW.P HW.w K mg base 1 "literal_text" N_literal_text p_literal_text [] m_literal_text) : FnOk HW.P HW.w K mg base CX0 2 f fd p_rule_text (spM K mg N_rule_text p_rule_text [] m_rule_text) := by
  refine def_ok (k := 1) F sc_rule_text fun cdv A outer s H E hr => ?_
  have nd := sc_rule_text.nd
  exact (ss_cons (s_asg (e_ix (e_var 0) e_int) (pg_name (i := 1) nd rfl (by first | exact Or.inl rfl | exact Or.inr rfl)) (tg_name (by decide)))
  (ss_cons (s_if (b_cmp op_inA rd_in (e_var 1) (ConD.dE c_NAME_WORDS rfl) (by rfl)) (ss_cons (s_ret (e_join e_str (e_var 0)))
  ss_nil) ss_nil)
  (ss_cons (s_ret (e_join e_str (e_op op_addL rd_addL (e_frz (o_lst (la_cons (e_var 1) la_nil))) (e_frz (o_lcL (own := [("literal", 2)]) (vs := [2]) rfl rfl nd (e_slA (e_var 0) (ip_some e_int) ip_none) (blkOk_by (N := N_rule_text) (sc := defScope s_rule_text) (by decide +kernel)) (fun _ _ _ _ _ => (pg_name (i := 2) nd rfl (by first | exact Or.inl rfl | exact Or.inr rfl))) (tg_name (by decide)) (tw_name (by decide)) (fun _ _ _ _ _ => pts_0) (fun _ _ _ _ _ => (e_callX d_literal_text (hr.mono (by decide)) rfl rfl (la_cons (e_var 2) la_nil) (len_cons len_nil) rfl)))))))
  ss_nil)))

abbrev s_Panel___init__ : Stmt := inClass (top 31) 0
abbrev N_Panel___init__ : List Str := ["self", "switches", "rules"]
abbrev p_Panel___init__ : List Str := ["self", "switches", "rules"]
def m_Panel___init__ : MS := (seqM (dropM (callD 3 m_check_switches (bindM (mVar 1) fun d => bindM (retM []) fun ds => retM (d :: ds)) []))
  (seqM (dropM (callD 4 m_check_rules (bindM (mVar 1) fun d => bindM (bindM (mVar 2) fun d => bindM (retM []) fun ds => retM (d :: ds)) fun ds => retM (d :: ds)) []))
  (seqM (setFM 0 "Panel" "switches" (mVar 1))
  (seqM (setFM 0 "Panel" "rules" (mVar 2))
  nxM))))
theorem sc_Panel___init__ : FnScope N_Panel___init__ p_Panel___init__ (defScope s_Panel___init__) := ⟨rfl, rfl, rfl, by decide +kernel, rfl, by decide +kernel, by decide +kernel⟩
theorem x_Panel___init__ {f : Addr} {fd : FuncData} {dvs : List V} (F : FunD K "__init__" "Panel.__init__" (defArgs s_Panel___init__) (defBody s_Panel___init__) (defScope s_Panel___init__) dvs [] f fd) (T : Txt K mg) (o_Panel : OwnC K mg "Panel" ["switches", "rules"]) (d_check_switches : DefX HW.P HW.w K mg base 2 "check_switches" N_check_switches p_check_switches [] m_check_switches) (d_check_rules : DefX HW.P HW.w K mg base 4 "check_rules" N_check_rules p_check_rules [] m_check_rules) : FnOk HW.P HW.w K mg base CX0 5 f fd p_Panel___init__ (spM K mg N_Panel___init__ p_Panel___init__ [0] m_Panel___init__) := by
  refine def_okD (k := 4) F sc_Panel___init__ fun cdv A outer s H E hr => ?_
  have nd := sc_Panel___init__.nd
  exact (ss_cons (s_drop (e_callX d_check_switches (hr.mono (by decide)) rfl rfl (la_cons (e_var 1) la_nil) (len_cons len_nil) rfl))
  (ss_cons (s_drop (e_callX d_check_rules (hr.mono (by decide)) rfl rfl (la_cons (e_var 1) (la_cons (e_var 2) la_nil)) (len_cons (len_cons len_nil)) rfl))
  (ss_cons (s_fldX 0 o_Panel (by simp) (pv 0) (e_var 1))
  (ss_cons (s_fldX 0 o_Panel (by simp) (pv 0) (e_var 2))
  ss_nil))))

abbrev s_read_literal : Stmt := top 29
abbrev N_read_literal : List Str := ["text"]
abbrev p_read_literal : List Str := ["text"]
def m_read_literal : MS := (seqM (retMS (bindM (bindM (slM slL (mVar 0) (bindM (retM (.int 1)) fun d => optM ((intD d).map some)) (retM none)) fun d => bindM (bindM (slM slL (mVar 0) (retM none) (bindM (retM (.int 1)) fun d => optM ((intD d).map some))) fun d => bindM (retM []) fun ds => retM (d :: ds)) fun ds => retM (d :: ds)) fun ds => optM (tupM ds)))
  nxM)
theorem sc_read_literal : FnScope N_read_literal p_read_literal (defScope s_read_literal) := ⟨rfl, rfl, rfl, by decide +kernel, rfl, by decide +kernel, by decide +kernel⟩
theorem x_read_literal {f : Addr} {fd : FuncData} (F : Fun K "read_literal" "read_literal" s_read_literal f fd) (T : Txt K mg)  : FnOk HW.P HW.w K mg base CX0 1 f fd p_read_literal (spM K mg N_read_literal p_read_literal [] m_read_literal) := by
  refine def_ok (k := 0) F sc_read_literal fun cdv A outer s H E hr => ?_
  have nd := sc_read_literal.nd
  exact (ss_cons (s_ret (e_tup (la_cons (e_slA (e_var 0) (ip_some e_int) ip_none) (la_cons (e_slA (e_var 0) ip_none (ip_some e_int)) la_nil))))
  ss_nil)

abbrev s_read_rule : Stmt := top 30
abbrev N_read_rule : List Str := ["row", "word", "parts", "literals", "part"]
abbrev p_read_rule : List Str := ["row"]
def m_read_rule : MS := (seqM (asgM (bindM (mBinO splitD (mVar 0) (retM (.str (" " : Str)))) fun o => retM o.d) (starF (consF (setF 1) (consF (setF 2) nilF))))
  (seqM (ifS (bindM (mBin (inD false) (mVar 1) (retM k_NAME_WORDS)) fun d => optM (blD d)) (seqM (retMS (bindM (bindM (mVar 1) fun d => bindM (bindM (mVar 2) fun d => bindM (optM (seqLs d)) fun xs => bindM (retM []) fun ds => retM (xs ++ ds)) fun ds => retM (d :: ds)) fun ds => optM (tupM ds)))
  nxM) nxM)
  (seqM (asgO (cplL (mVar 2) [4] (setF 4) (retM true) (callD 1 m_read_literal (bindM (mVar 4) fun d => bindM (retM []) fun ds => retM (d :: ds)) [])) 3)
  (seqM (retMS (bindM (bindM (mVar 1) fun d => bindM (bindM (frzN 3) fun d => bindM (optM (seqLs d)) fun xs => bindM (retM []) fun ds => retM (xs ++ ds)) fun ds => retM (d :: ds)) fun ds => optM (tupM ds)))
  nxM))))
theorem sc_read_rule : FnScope N_read_rule p_read_rule (defScope s_read_rule) := ⟨rfl, rfl, rfl, by decide +kernel, rfl, by decide +kernel, by decide +kernel⟩
theorem x_read_rule {f : Addr} {fd : FuncData} (F : Fun K "read_rule" "read_rule" s_read_rule f fd) (T : Txt K mg) (c_NAME_WORDS : ConD K mg "NAME_WORDS" k_NAME_WORDS) (d_read_literal : DefX HW.P HW.w K mg base 1 "read_literal" N_read_literal p_read_literal [] m_read_literal) : FnOk HW.P HW.w K mg base CX0 2 f fd p_read_rule (spM K mg N_read_rule p_read_rule [] m_read_rule) := by
  refine def_ok (k := 1) F sc_read_rule fun cdv A outer s H E hr => ?_
  have nd := sc_read_rule.nd
  exact (ss_cons (s_asg (e_frz (o_split (e_var 0) e_str)) (pg_star rfl (pgs_cons (pg_name (i := 1) nd rfl (by first | exact Or.inl rfl | exact Or.inr rfl)) (pgs_cons (pg_name (i := 2) nd rfl (by first | exact Or.inl rfl | exact Or.inr rfl)) pgs_nil))) (tg_star (tg_cons (tg_name (by decide)) (tg_cons (tg_name (by decide)) tg_nil))))
  (ss_cons (s_if (b_cmp op_inA rd_in (e_var 1) (ConD.dE c_NAME_WORDS rfl) (by rfl)) (ss_cons (s_ret (e_tup (la_cons (e_var 1) (la_star (e_var 2) la_nil))))
  ss_nil) ss_nil)
  (ss_cons (s_setLcL (own := [("part", 4)]) (vs := [4]) rfl rfl nd (e_var 2) (blkOk_by (N := N_read_rule) (sc := defScope s_read_rule) (by decide +kernel)) (fun _ _ _ _ _ => (pg_name (i := 4) nd rfl (by first | exact Or.inl rfl | exact Or.inr rfl))) (tg_name (by decide)) (tw_name (by decide)) (fun _ _ _ _ _ => pts_0) (fun _ _ _ _ _ => (e_callX d_read_literal (hr.mono (by decide)) rfl rfl (la_cons (e_var 4) la_nil) (len_cons len_nil) rfl)) rfl rfl (by decide))
  (ss_cons (s_ret (e_tup (la_cons (e_var 1) (la_star (e_frzN 3 (pv 3)) la_nil))))
  ss_nil))))

abbrev s_Panel_read : Stmt := inClass (top 31) 1
abbrev N_Panel_read : List Str := ["cls", "text", "head", "rows", "switches", "rules", "row"]
abbrev p_Panel_read : List Str := ["cls", "text"]
def m_Panel_read : MS := (seqM (ifS (orB (bindM (bindM (bindM (mVar 1) fun d => optM (isB "str" d)) fun d => optM (truD d)) fun k => retM !k) (bindM (bindM (mBin swD (mVar 1) (retM k_HEAD)) fun d => optM (truD d)) fun k => retM !k)) (seqM stuckM
  nxM) nxM)
  (seqM (asgM (bindM (mBinO splitD (mVar 1) (retM (.str ("\n" : Str)))) fun o => retM o.d) (starF (consF (setF 2) (consF (setF 3) nilF))))
  (seqM (asgM (bindM (bindM (bindM (mBinO splitD (slM slL (mVar 2) (bindM (bindM (bindM (retM k_HEAD) fun d => bindM (retM []) fun ds => retM (d :: ds)) fun ds => optM (lenD ds)) fun d => optM ((intD d).map some)) (retM none)) (retM (.str (", " : Str)))) fun o => retM o.d) fun d => bindM (retM []) fun ds => retM (d :: ds)) fun ds => optM (tupcD ds)) (setF 4))
  (seqM (asgM (bindM (bindM (bindM (cplL (mVar 3) [6] (setF 6) (retM true) (callD 5 m_read_rule (bindM (mVar 6) fun d => bindM (retM []) fun ds => retM (d :: ds)) [])) fun o => retM o.d) fun d => bindM (retM []) fun ds => retM (d :: ds)) fun ds => optM (tupcD ds)) (setF 5))
  (seqM (seqM (retMS (bindM (mkL 0 3 m_Panel___init__ "Panel" (bindM (mVar 4) fun d => bindM (bindM (mVar 5) fun d => bindM (retM []) fun ds => retM (d :: ds)) fun ds => retM (d :: ds)) []) fun o => retM o.d))
  nxM)
  nxM)))))
theorem sc_Panel_read : FnScope N_Panel_read p_Panel_read (defScope s_Panel_read) := ⟨rfl, rfl, rfl, by decide +kernel, rfl, by decide +kernel, by decide +kernel⟩
theorem x_Panel_read {f : Addr} {fd : FuncData} (F : Fun K "read" "Panel.read" s_Panel_read f fd) (T : Txt K mg) (c_HEAD : ConD K mg "HEAD" k_HEAD) (mk0_Panel : MakeX HW.P HW.w K mg base 5 "Panel" N_Panel___init__ p_Panel___init__ [] m_Panel___init__) (mk1_Panel : MakeX HW.P HW.w K mg base 5 "Panel" N_Panel___init__ p_Panel___init__ dd_Panel m_Panel___init__) (d_read_rule : DefX HW.P HW.w K mg base 2 "read_rule" N_read_rule p_read_rule [] m_read_rule) : FnOk HW.P HW.w K mg base CX0 7 f fd p_Panel_read (spM K mg N_Panel_read p_Panel_read [] m_Panel_read) := by
  refine def_ok (k := 6) F sc_Panel_read fun cdv A outer s H E hr => ?_
  have nd := sc_Panel_read.nd
  exact (ss_cons (s_if (b_w (bw_or (b_not (b_tru (e_isB (e_var 1) rfl T.isinstance (pe_bltn rfl T.str (by decide +kernel) rfl)))) (bw_o1 (b_not (b_tru (e_sw (e_var 1) (ConD.dE c_HEAD rfl))))))) (ss_cons s_never
  ss_nil) ss_nil)
  (ss_cons (s_asg (e_frz (o_split (e_var 1) e_str)) (pg_star rfl (pgs_cons (pg_name (i := 2) nd rfl (by first | exact Or.inl rfl | exact Or.inr rfl)) (pgs_cons (pg_name (i := 3) nd rfl (by first | exact Or.inl rfl | exact Or.inr rfl)) pgs_nil))) (tg_star (tg_cons (tg_name (by decide)) (tg_cons (tg_name (by decide)) tg_nil))))
  (ss_cons (s_asg (e_ty call_tupleF cd_tup rfl T.tuple (by decide +kernel) (la_cons (e_frz (o_split (e_slA (e_var 2) (ip_some (e_bi call_len cd_len rfl T.len (by decide +kernel) (la_cons (ConD.dE c_HEAD rfl) la_nil))) ip_none) e_str)) la_nil)) (pg_name (i := 4) nd rfl (by first | exact Or.inl rfl | exact Or.inr rfl)) (tg_name (by decide)))
  (ss_cons (s_asg (e_ty call_tupleF cd_tup rfl T.tuple (by decide +kernel) (la_cons (e_frz (o_lcL (own := [("row", 6)]) (vs := [6]) rfl rfl nd (e_var 3) (blkOk_by (N := N_Panel_read) (sc := defScope s_Panel_read) (by decide +kernel)) (fun _ _ _ _ _ => (pg_name (i := 6) nd rfl (by first | exact Or.inl rfl | exact Or.inr rfl))) (tg_name (by decide)) (tw_name (by decide)) (fun _ _ _ _ _ => pts_0) (fun _ _ _ _ _ => (e_callX d_read_rule (hr.mono (by decide)) rfl rfl (la_cons (e_var 6) la_nil) (len_cons len_nil) rfl)))) la_nil)) (pg_name (i := 5) nd rfl (by first | exact Or.inl rfl | exact Or.inr rfl)) (tg_name (by decide)))
  (ss_cons (s_quiet fun _ _ _ => (ss_cons (s_ret (e_frz (o_makeL 0 mk0_Panel (hr.mono (by decide)) rfl (la_cons (e_var 4) (la_cons (e_var 5) la_nil)) (len_cons (len_cons len_nil)) rfl)))
  ss_nil))
  ss_nil)))))

abbrev s_Panel_text : Stmt := inClass (top 31) 2
abbrev N_Panel_text : List Str := ["self", "rows", "rule"]
abbrev p_Panel_text : List Str := ["self"]
def m_Panel_text : MS := (seqM (asgM (mBin addL (bindM (bindM (bindM (mBin addL (retM k_HEAD) (mBin joinD (retM (.str (", " : Str))) (bindM (mVar 0) fun d => optM (fldD "Panel" "switches" d)))) fun d => bindM (retM []) fun ds => retM (d :: ds)) fun ds => optM (lstM ds)) fun o => retM o.d) (bindM (cplL (bindM (mVar 0) fun d => optM (fldD "Panel" "rules" d)) [2] (setF 2) (retM true) (callD 3 m_rule_text (bindM (mVar 2) fun d => bindM (retM []) fun ds => retM (d :: ds)) [])) fun o => retM o.d)) (setF 1))
  (seqM (retMS (mBin joinD (retM (.str ("\n" : Str))) (mVar 1)))
  nxM))
theorem sc_Panel_text : FnScope N_Panel_text p_Panel_text (defScope s_Panel_text) := ⟨rfl, rfl, rfl, by decide +kernel, rfl, by decide +kernel, by decide +kernel⟩
theorem x_Panel_text {f : Addr} {fd : FuncData} (F : Fun K "text" "Panel.text" s_Panel_text f fd) (T : Txt K mg) (c_HEAD : ConD K mg "HEAD" k_HEAD) (o_Panel : OwnC K mg "Panel" ["switches", "rules"]) (d_rule_text : DefX HW.P HW.w K mg base 2 "rule_text" N_rule_text p_rule_text [] m_rule_text) : FnOk HW.P HW.w K mg base CX0 3 f fd p_Panel_text (spM K mg N_Panel_text p_Panel_text [] m_Panel_text) := by
  refine def_ok (k := 2) F sc_Panel_text fun cdv A outer s H E hr => ?_
  have nd := sc_Panel_text.nd
  exact (ss_cons (s_asg (e_op op_addL rd_addL (e_frz (o_lst (la_cons (e_op op_addL rd_addL (ConD.dE c_HEAD rfl) (e_join e_str (e_fldX o_Panel (by simp) (e_var 0)))) la_nil))) (e_frz (o_lcL (own := [("rule", 2)]) (vs := [2]) rfl rfl nd (e_fldX o_Panel (by simp) (e_var 0)) (blkOk_by (N := N_Panel_text) (sc := defScope s_Panel_text) (by decide +kernel)) (fun _ _ _ _ _ => (pg_name (i := 2) nd rfl (by first | exact Or.inl rfl | exact Or.inr rfl))) (tg_name (by decide)) (tw_name (by decide)) (fun _ _ _ _ _ => pts_0) (fun _ _ _ _ _ => (e_callX d_rule_text (hr.mono (by decide)) rfl rfl (la_cons (e_var 2) la_nil) (len_cons len_nil) rfl))))) (pg_name (i := 1) nd rfl (by first | exact Or.inl rfl | exact Or.inr rfl)) (tg_name (by decide)))
  (ss_cons (s_ret (e_join e_str (e_var 1)))
  ss_nil))

abbrev s_Panel___len__ : Stmt := inClass (top 31) 4
abbrev N_Panel___len__ : List Str := ["self"]
abbrev p_Panel___len__ : List Str := ["self"]
def m_Panel___len__ : MS := (seqM (retMS (bindM (bindM (bindM (mVar 0) fun d => optM (fldD "Panel" "rules" d)) fun d => bindM (retM []) fun ds => retM (d :: ds)) fun ds => optM (lenD ds)))
  nxM)
theorem sc_Panel___len__ : FnScope N_Panel___len__ p_Panel___len__ (defScope s_Panel___len__) := ⟨rfl, rfl, rfl, by decide +kernel, rfl, by decide +kernel, by decide +kernel⟩
theorem x_Panel___len__ {f : Addr} {fd : FuncData} (F : Fun K "__len__" "Panel.__len__" s_Panel___len__ f fd) (T : Txt K mg) (o_Panel : OwnC K mg "Panel" ["switches", "rules"]) : FnOk HW.P HW.w K mg base CX0 1 f fd p_Panel___len__ (spM K mg N_Panel___len__ p_Panel___len__ [] m_Panel___len__) := by
  refine def_ok (k := 0) F sc_Panel___len__ fun cdv A outer s H E hr => ?_
  have nd := sc_Panel___len__.nd
  exact (ss_cons (s_ret (e_bi call_len cd_len rfl T.len (by decide +kernel) (la_cons (e_fldX o_Panel (by simp) (e_var 0)) la_nil)))
  ss_nil)

abbrev s_Panel___eq__ : Stmt := inClass (top 31) 5
abbrev N_Panel___eq__ : List Str := ["self", "other"]
abbrev p_Panel___eq__ : List Str := ["self", "other"]
def m_Panel___eq__ : MS := (seqM (retMS (andV (bindM (mVar 1) fun d => optM (isC "Panel" d)) (andV (mBin (eqD false) (bindM (mVar 0) fun d => optM (fldD "Panel" "switches" d)) (bindM (mVar 1) fun d => optM (fldD "Panel" "switches" d))) (mBin (eqD false) (bindM (mVar 0) fun d => optM (fldD "Panel" "rules" d)) (bindM (mVar 1) fun d => optM (fldD "Panel" "rules" d))))))
  nxM)
theorem sc_Panel___eq__ : FnScope N_Panel___eq__ p_Panel___eq__ (defScope s_Panel___eq__) := ⟨rfl, rfl, rfl, by decide +kernel, rfl, by decide +kernel, by decide +kernel⟩
theorem x_Panel___eq__ {f : Addr} {fd : FuncData} (F : Fun K "__eq__" "Panel.__eq__" s_Panel___eq__ f fd) (T : Txt K mg) (o_Panel : OwnC K mg "Panel" ["switches", "rules"]) : FnOk HW.P HW.w K mg base CX0 1 f fd p_Panel___eq__ (spM K mg N_Panel___eq__ p_Panel___eq__ [] m_Panel___eq__) := by
  refine def_ok (k := 0) F sc_Panel___eq__ fun cdv A outer s H E hr => ?_
  have nd := sc_Panel___eq__.nd
  exact (ss_cons (s_ret (e_and (e_isX o_Panel (e_var 1) rfl T.isinstance rfl) (e_and (e_cmp (op_eqD hr.units) rd_eq (e_fldX o_Panel (by simp) (e_var 0)) (e_fldX o_Panel (by simp) (e_var 1)) (nobehind _ (by decide) (by decide))) (e_1 (e_cmp (op_eqD hr.units) rd_eq (e_fldX o_Panel (by simp) (e_var 0)) (e_fldX o_Panel (by simp) (e_var 1)) (nobehind _ (by decide) (by decide)))))))
  ss_nil)

abbrev s__law_made : Stmt := top 44
abbrev N__law_made : List Str := ["_law_parts"]
abbrev p__law_made : List Str := ["_law_parts"]
def m__law_made : MS := (seqM (retMS (bindM (mkO 3 m_Panel___init__ "Panel" (bindM (mBin atD (mVar 0) (retM (.int 0))) fun d => bindM (bindM (mBin atD (mVar 0) (retM (.int 1))) fun d => bindM (retM []) fun ds => retM (d :: ds)) fun ds => retM (d :: ds)) fun xs => xs ++ []) fun o => retM o.d))
  nxM)
theorem sc__law_made : FnScope N__law_made p__law_made (defScope s__law_made) := ⟨rfl, rfl, rfl, by decide +kernel, rfl, by decide +kernel, by decide +kernel⟩
theorem x__law_made {f : Addr} {fd : FuncData} (F : Fun K "_law_made" "_law_made" s__law_made f fd) (T : Txt K mg) (mk0_Panel : MakeX HW.P HW.w K mg base 5 "Panel" N_Panel___init__ p_Panel___init__ [] m_Panel___init__) (mk1_Panel : MakeX HW.P HW.w K mg base 5 "Panel" N_Panel___init__ p_Panel___init__ dd_Panel m_Panel___init__) : FnOk HW.P HW.w K mg base CX0 7 f fd p__law_made (spM K mg N__law_made p__law_made [] m__law_made) := by
  refine def_ok (k := 6) F sc__law_made fun cdv A outer s H E hr => ?_
  have nd := sc__law_made.nd
  exact (ss_cons (s_ret (e_frz (o_makeX mk0_Panel (hr.mono (by decide)) rfl rfl (la_cons (e_ix (e_var 0) e_int) (la_cons (e_ix (e_var 0) e_int) la_nil)) (len_cons (len_cons len_nil)) rfl)))
  ss_nil)

abbrev s_chain : Stmt := top 35
abbrev N_chain : List Str := []
abbrev p_chain : List Str := []
def m_chain : MS := (seqM (retMS (bindM (bindM (retM k_CHAIN) fun d => bindM (retM []) fun ds => retM (d :: ds)) fun ds => optM (ownM 7 m_Panel_read (.cls "Panel" :: ds))))
  nxM)
theorem sc_chain : FnScope N_chain p_chain (defScope s_chain) := ⟨rfl, rfl, rfl, by decide +kernel, rfl, by decide +kernel, by decide +kernel⟩
theorem x_chain {f : Addr} {fd : FuncData} (F : Fun K "chain" "chain" s_chain f fd) (T : Txt K mg) (c_CHAIN : ConD K mg "CHAIN" k_CHAIN) (d_Panel_read : CmX HW.P HW.w K mg base 7 "Panel" "read" N_Panel_read p_Panel_read m_Panel_read) : FnOk HW.P HW.w K mg base CX0 8 f fd p_chain (spM K mg N_chain p_chain [] m_chain) := by
  refine def_ok (k := 7) F sc_chain fun cdv A outer s H E hr => ?_
  have nd := sc_chain.nd
  exact (ss_cons (s_ret (e_cmX d_Panel_read (hr.mono (by decide)) rfl rfl (la_cons (ConD.dE c_CHAIN rfl) la_nil) (len_cons len_nil) rfl))
  ss_nil)

abbrev s_shed : Stmt := top 36
abbrev N_shed : List Str := []
abbrev p_shed : List Str := []
def m_shed : MS := (seqM (retMS (bindM (bindM (retM k_SHED) fun d => bindM (retM []) fun ds => retM (d :: ds)) fun ds => optM (ownM 7 m_Panel_read (.cls "Panel" :: ds))))
  nxM)
theorem sc_shed : FnScope N_shed p_shed (defScope s_shed) := ⟨rfl, rfl, rfl, by decide +kernel, rfl, by decide +kernel, by decide +kernel⟩
theorem x_shed {f : Addr} {fd : FuncData} (F : Fun K "shed" "shed" s_shed f fd) (T : Txt K mg) (c_SHED : ConD K mg "SHED" k_SHED) (d_Panel_read : CmX HW.P HW.w K mg base 7 "Panel" "read" N_Panel_read p_Panel_read m_Panel_read) : FnOk HW.P HW.w K mg base CX0 8 f fd p_shed (spM K mg N_shed p_shed [] m_shed) := by
  refine def_ok (k := 7) F sc_shed fun cdv A outer s H E hr => ?_
  have nd := sc_shed.nd
  exact (ss_cons (s_ret (e_cmX d_Panel_read (hr.mono (by decide)) rfl rfl (la_cons (ConD.dE c_SHED rfl) la_nil) (len_cons len_nil) rfl))
  ss_nil)

end
end Fli
set_option Elab.async false
set_option linter.all false
set_option maxRecDepth 100000
set_option maxHeartbeats 8000000
namespace Fli
open PySem L2
section
variable [HW] {K : PySem.W.Frag} {mg : Str → Option Value} {base : Heap}
abbrev s__law_right : Stmt := top 47
abbrev N__law_right : List Str := ["_law_bag_here", "_law_mine", "_law_each"]
abbrev p__law_right : List Str := ["_law_bag_here"]
def m__law_right : MS := (seqM (asgM (callD 1 m__law_made (bindM (bindM (lendO 8 m__law_panel 0 (bindM (retM (.int 4)) fun d => bindM (bindM (retM (.int 5)) fun d => bindM (retM []) fun ds => retM (d :: ds)) fun ds => retM (d :: ds))) fun o => retM o.d) fun d => bindM (retM []) fun ds => retM (d :: ds)) []) (setF 1))
  (seqM (ifS (orB (bindM (mBin (neO 2 m_Panel___eq__ "Panel") (callD 0 m_chain (retM []) []) (callD 0 m_chain (retM []) [])) fun d => optM (blD d)) (orB (bindM (mBin (neO 2 m_Panel___eq__ "Panel") (callD 0 m_shed (retM []) []) (callD 0 m_shed (retM []) [])) fun d => optM (blD d)) (bindM (mBin (eqO 2 m_Panel___eq__ "Panel") (callD 0 m_chain (retM []) []) (callD 0 m_shed (retM []) [])) fun d => optM (blD d)))) (seqM (retMS (retM (.bl false)))
  nxM) nxM)
  (seqM (forL (bindM (bindM (bindM (callD 0 m_chain (retM []) []) fun d => bindM (bindM (callD 0 m_shed (retM []) []) fun d => bindM (retM []) fun ds => retM (d :: ds)) fun ds => retM (d :: ds)) fun ds => optM (lstM ds)) fun o => retM o.d) (setF 2)
  (seqM (ifS (bindM (mBin (eqD true) (mBin (eqO 2 m_Panel___eq__ "Panel") (mVar 2) (mVar 1)) (mBin (eqD false) (bindM (mVar 2) fun x => optM (methO 3 m_Panel_text "Panel" "text" x)) (bindM (mVar 1) fun x => optM (methO 3 m_Panel_text "Panel" "text" x)))) fun d => optM (blD d)) (seqM (retMS (retM (.bl false)))
  nxM) nxM)
  nxM))
  (seqM (retMS (mBin (eqD false) (bindM (bindM (bindM (bindM (callD 0 m_chain (retM []) []) fun d => optM (lenC 1 m_Panel___len__ "Panel" d)) fun d => bindM (bindM (bindM (callD 0 m_shed (retM []) []) fun d => optM (lenC 1 m_Panel___len__ "Panel" d)) fun d => bindM (retM []) fun ds => retM (d :: ds)) fun ds => retM (d :: ds)) fun ds => optM (lstM ds)) fun o => retM o.d) (bindM (bindM (bindM (retM (.int 2)) fun d => bindM (bindM (retM (.int 6)) fun d => bindM (retM []) fun ds => retM (d :: ds)) fun ds => retM (d :: ds)) fun ds => optM (lstM ds)) fun o => retM o.d)))
  nxM))))
theorem sc__law_right : FnScope N__law_right p__law_right (defScope s__law_right) := ⟨rfl, rfl, rfl, by decide +kernel, rfl, by decide +kernel, by decide +kernel⟩
theorem x__law_right {f : Addr} {fd : FuncData} (F : Fun K "_law_right" "_law_right" s__law_right f fd) (T : Txt K mg) (o_Panel : OwnC K mg "Panel" ["switches", "rules"]) (ne_Panel : NoNe K mg "Panel") (d_Panel___eq__ : DefM HW.P HW.w K mg base 1 "Panel" "__eq__" N_Panel___eq__ p_Panel___eq__ m_Panel___eq__) (d_Panel_text : DefM HW.P HW.w K mg base 3 "Panel" "text" N_Panel_text p_Panel_text m_Panel_text) (d_Panel___len__ : DefM HW.P HW.w K mg base 1 "Panel" "__len__" N_Panel___len__ p_Panel___len__ m_Panel___len__) (d__law_made : DefX HW.P HW.w K mg base 7 "_law_made" N__law_made p__law_made [] m__law_made) (d__law_panel : DefX HW.P HW.w K mg base 4 "_law_panel" N__law_panel p__law_panel [0] m__law_panel) (d_chain : DefX HW.P HW.w K mg base 8 "chain" N_chain p_chain [] m_chain) (d_shed : DefX HW.P HW.w K mg base 8 "shed" N_shed p_shed [] m_shed) : FnG HW.P HW.w K mg base 9 f fd p__law_right (spM K mg N__law_right p__law_right [0] m__law_right) := by
  refine g_ok (k := 8) F sc__law_right fun cdv A outer s H E gd hr => ?_
  have hu66 := hr.un66
  have nd := sc__law_right.nd
  exact (ss_cons (s_asg (e_callX d__law_made (hr.mono (by decide)) rfl rfl (la_cons (e_frz (o_lendX 0 d__law_panel (hr.mono (by decide)) rfl rfl (pv 0) (la_cons e_int (la_cons e_int la_nil)) (len_cons (len_cons len_nil)) rfl)) la_nil) (len_cons len_nil) rfl) (pg_name (i := 1) nd rfl (by first | exact Or.inl rfl | exact Or.inr rfl)) (tg_name (by decide)))
  (ss_cons (s_if (b_w (bw_or (b_neX d_Panel___eq__ ne_Panel (hr.mono (by decide)) rfl rfl (e_callX0 d_chain (hr.mono (by decide)) rfl rfl) (e_callX0 d_chain (hr.mono (by decide)) rfl rfl)) (bw_or (b_neX d_Panel___eq__ ne_Panel (hr.mono (by decide)) rfl rfl (e_callX0 d_shed (hr.mono (by decide)) rfl rfl) (e_callX0 d_shed (hr.mono (by decide)) rfl rfl)) (bw_o1 (b_eqX o_Panel d_Panel___eq__ (hr.mono (by decide)) rfl rfl (e_callX0 d_chain (hr.mono (by decide)) rfl rfl) (e_callX0 d_shed (hr.mono (by decide)) rfl rfl)))))) (ss_cons (s_ret e_bl)
  ss_nil) ss_nil)
  (ss_cons (s_forL (e_frz (o_lst (la_cons (e_callX0 d_chain (hr.mono (by decide)) rfl rfl) (la_cons (e_callX0 d_shed (hr.mono (by decide)) rfl rfl) la_nil)))) (pg_name (i := 2) nd rfl (by first | exact Or.inl rfl | exact Or.inr rfl)) (tg_name (by decide))
  (ss_cons (s_if (b_cmp (op_neD hr.units) rd_ne (e_eqX o_Panel d_Panel___eq__ (hr.mono (by decide)) rfl rfl (e_var 2) (e_var 1)) (e_cmp (op_eqD hr.units) rd_eq (e_meth0 d_Panel_text (hr.mono (by decide)) rfl rfl (e_var 2)) (e_meth0 d_Panel_text (hr.mono (by decide)) rfl rfl (e_var 1)) (nobehind _ (by decide) (by decide))) (nobehind _ (by decide) (by decide))) (ss_cons (s_ret e_bl)
  ss_nil) ss_nil)
  ss_nil) rfl PassesOwn.never)
  (ss_cons (s_ret (e_cmp (op_eqD hr.units) rd_eq (e_frz (o_lst (la_cons (e_lenX d_Panel___len__ (hr.mono (by decide)) rfl rfl (e_callX0 d_chain (hr.mono (by decide)) rfl rfl) rfl T.len) (la_cons (e_lenX d_Panel___len__ (hr.mono (by decide)) rfl rfl (e_callX0 d_shed (hr.mono (by decide)) rfl rfl) rfl T.len) la_nil)))) (e_frz (o_lst (la_cons e_int (la_cons e_int la_nil)))) (nobehind _ (by decide) (by decide))))
  ss_nil))))

abbrev s_law : Stmt := top 48
abbrev N_law : List Str := ["_law_script", "_law_told", "_law_line", "_law_k"]
abbrev p_law : List Str := ["_law_script"]
def m_law : MS := (seqM (asgO (bindM (bindM (retM k_MOST_NAME) fun d => bindM (bindM (retM k_MOST_SWITCHES) fun d => bindM (bindM (retM k_MOST_RULES) fun d => bindM (bindM (retM k_MOST_WISHED) fun d => bindM (bindM (retM k_MOST_ROW) fun d => bindM (bindM (retM k_MOST_SEEN) fun d => bindM (bindM (retM k_MOST_GIVEN) fun d => bindM (retM []) fun ds => retM (d :: ds)) fun ds => retM (d :: ds)) fun ds => retM (d :: ds)) fun ds => retM (d :: ds)) fun ds => retM (d :: ds)) fun ds => retM (d :: ds)) fun ds => retM (d :: ds)) fun ds => optM (lstM ds)) 1)
  (seqM (ifS (bindM (mBin (eqD true) (bindM (bindM (frzN 1) fun d => bindM (retM []) fun ds => retM (d :: ds)) fun ds => optM (reprD ds)) (bindM (bindM (bindM (bindM (bindM (retM (.int 8)) fun d => bindM (bindM (retM (.int 10)) fun d => bindM (bindM (retM (.int 240)) fun d => bindM (bindM (retM (.int 10)) fun d => bindM (bindM (retM (.int 1000)) fun d => bindM (bindM (retM (.int 40)) fun d => bindM (bindM (retM (.int 10)) fun d => bindM (retM []) fun ds => retM (d :: ds)) fun ds => retM (d :: ds)) fun ds => retM (d :: ds)) fun ds => retM (d :: ds)) fun ds => retM (d :: ds)) fun ds => retM (d :: ds)) fun ds => retM (d :: ds)) fun ds => optM (lstM ds)) fun o => retM o.d) fun d => bindM (retM []) fun ds => retM (d :: ds)) fun ds => optM (reprD ds))) fun d => optM (blD d)) (seqM (retMS (retM (.bl false)))
  nxM) nxM)
  (seqM (ifS (bindM (mBin (eqD true) (bindM (callD 0 m_chain (retM []) []) fun x => optM (methO 3 m_Panel_text "Panel" "text" x)) (retM (.str ("switches a, b, c\nneeds +a +b\nneeds +b +c" : Str)))) fun d => optM (blD d)) (seqM (retMS (retM (.bl false)))
  nxM) nxM)
  (seqM (asgM (retM (.str ("switches pump, valve, lamp, door\nbe +lamp\neither +pump -valve\nneeds +pump +valve\n" : Str))) (setF 2))
  (seqM (ifS (bindM (mBin (eqD true) (bindM (callD 0 m_shed (retM []) []) fun x => optM (methO 3 m_Panel_text "Panel" "text" x)) (mBin addL (mVar 2) (retM (.str ("bars +door +pump\nsame pump door\nunlike lamp door" : Str))))) fun d => optM (blD d)) (seqM (retMS (retM (.bl false)))
  nxM) nxM)
  (seqM (retMS (bindM (bindM (bindM (cplR (bindM (bindM (bindM (retM (.int 2)) fun d => bindM (bindM (bindM (bindM (bindM (bindM (mVar 0) fun d => bindM (retM []) fun ds => retM (d :: ds)) fun ds => optM (lenD ds)) fun d => bindM (bindM (retM (.int 3)) fun d => bindM (retM []) fun ds => retM (d :: ds)) fun ds => retM (d :: ds)) fun ds => optM (minD ds)) fun d => bindM (retM []) fun ds => retM (d :: ds)) fun ds => retM (d :: ds)) fun ds => optM (maxD ds)) fun d => bindM (retM []) fun ds => retM (d :: ds)) rng1 [3] (setF 3) (retM true) (giveD 3 m__law_right (callO 6 m__law_bag (bindM (mVar 0) fun d => bindM (bindM (mVar 3) fun d => bindM (retM []) fun ds => retM (d :: ds)) fun ds => retM (d :: ds)) []))) fun o => retM o.d) fun d => bindM (retM []) fun ds => retM (d :: ds)) fun ds => optM (allD ds)))
  nxM))))))
theorem sc_law : FnScope N_law p_law (defScope s_law) := ⟨rfl, rfl, rfl, by decide +kernel, rfl, by decide +kernel, by decide +kernel⟩
theorem x_law {f : Addr} {fd : FuncData} (F : Fun K "law" "law" s_law f fd) (T : Txt K mg) (c_MOST_GIVEN : ConD K mg "MOST_GIVEN" k_MOST_GIVEN) (c_MOST_SEEN : ConD K mg "MOST_SEEN" k_MOST_SEEN) (c_MOST_ROW : ConD K mg "MOST_ROW" k_MOST_ROW) (c_MOST_WISHED : ConD K mg "MOST_WISHED" k_MOST_WISHED) (c_MOST_RULES : ConD K mg "MOST_RULES" k_MOST_RULES) (c_MOST_SWITCHES : ConD K mg "MOST_SWITCHES" k_MOST_SWITCHES) (c_MOST_NAME : ConD K mg "MOST_NAME" k_MOST_NAME) (d_Panel_text : DefM HW.P HW.w K mg base 3 "Panel" "text" N_Panel_text p_Panel_text m_Panel_text) (d_chain : DefX HW.P HW.w K mg base 8 "chain" N_chain p_chain [] m_chain) (d_shed : DefX HW.P HW.w K mg base 8 "shed" N_shed p_shed [] m_shed) (d__law_right : DefG HW.P HW.w K mg base 9 "_law_right" N__law_right p__law_right [0] m__law_right) (d__law_bag : DefX HW.P HW.w K mg base 1 "_law_bag" N__law_bag p__law_bag [] m__law_bag) : FnG HW.P HW.w K mg base 10 f fd p_law (spM K mg N_law p_law [] m_law) := by
  refine g_ok (k := 9) F sc_law fun cdv A outer s H E gd hr => ?_
  have hu66 := hr.un66
  have nd := sc_law.nd
  exact (ss_cons (s_asgO (o_lst (la_cons (ConD.dE c_MOST_NAME rfl) (la_cons (ConD.dE c_MOST_SWITCHES rfl) (la_cons (ConD.dE c_MOST_RULES rfl) (la_cons (ConD.dE c_MOST_WISHED rfl) (la_cons (ConD.dE c_MOST_ROW rfl) (la_cons (ConD.dE c_MOST_SEEN rfl) (la_cons (ConD.dE c_MOST_GIVEN rfl) la_nil)))))))) (pg_name (i := 1) nd rfl (by first | exact Or.inl rfl | exact Or.inr rfl)) (by decide))
  (ss_cons (s_if (b_cmp (op_neD hr.units) rd_ne (e_bi (call_repr gd hu66) cd_repr rfl T.repr (by decide +kernel) (la_cons (e_frzN 1 (pv 1)) la_nil)) (e_bi (call_repr gd hu66) cd_repr rfl T.repr (by decide +kernel) (la_cons (e_frz (o_lst (la_cons e_int (la_cons e_int (la_cons e_int (la_cons e_int (la_cons e_int (la_cons e_int (la_cons e_int la_nil))))))))) la_nil)) (nobehind _ (by decide) (by decide))) (ss_cons (s_ret e_bl)
  ss_nil) ss_nil)
  (ss_cons (s_if (b_cmp (op_neD hr.units) rd_ne (e_meth0 d_Panel_text (hr.mono (by decide)) rfl rfl (e_callX0 d_chain (hr.mono (by decide)) rfl rfl)) e_str (nobehind _ (by decide) (by decide))) (ss_cons (s_ret e_bl)
  ss_nil) ss_nil)
  (ss_cons (s_asg e_str (pg_name (i := 2) nd rfl (by first | exact Or.inl rfl | exact Or.inr rfl)) (tg_name (by decide)))
  (ss_cons (s_if (b_cmp (op_neD hr.units) rd_ne (e_meth0 d_Panel_text (hr.mono (by decide)) rfl rfl (e_callX0 d_shed (hr.mono (by decide)) rfl rfl)) (e_op op_addL rd_addL (e_var 2) e_str) (nobehind _ (by decide) (by decide))) (ss_cons (s_ret e_bl)
  ss_nil) ss_nil)
  (ss_cons (s_ret (e_bi (cr_all rfl) cd_all rfl T.all (by decide +kernel) (la_cons (e_frz (o_lc1 (own := [("_law_k", 3)]) (vs := [3]) rfl rfl nd (la_cons (e_bi (call_max2 rfl) cd_max rfl T.max (by decide +kernel) (la_cons e_int (la_cons (e_bi (call_min2 rfl) cd_min rfl T.min (by decide +kernel) (la_cons (e_bi call_len cd_len rfl T.len (by decide +kernel) (la_cons (e_var 0) la_nil)) (la_cons e_int la_nil))) la_nil))) la_nil) rfl T.range (blkOk_by (N := N_law) (sc := defScope s_law) (by decide +kernel)) (fun _ _ _ _ _ => (pg_name (i := 3) nd rfl (by first | exact Or.inl rfl | exact Or.inr rfl))) (tg_name (by decide)) (tw_name (by decide)) (fun _ _ _ _ _ => pts_0) (fun _ _ _ _ _ => (e_giveX d__law_right gd (hr.mono (by decide)) rfl rfl rfl (o_callX d__law_bag (hr.mono (by decide)) rfl rfl (la_cons (e_var 0) (la_cons (e_var 3) la_nil)) (len_cons (len_cons len_nil)) rfl))))) la_nil)))
  ss_nil))))))
end
end Fli
set_option Elab.async false
set_option linter.all false
set_option maxRecDepth 100000
set_option maxHeartbeats 8000000
namespace Fli
open PySem PySem.Spec PyProof.Rows L2
theorem all_mk [HW] {K : PySem.W.Frag} {h : Heap} {mg : Str → Option Value} {fa C_Panel : Addr} (X : K.In h) (G : h.Ns mainGlobals mg) (hfa : mg "law" = some (.ref fa))
    (a_Panel : PySem.W.nsIn K mainGlobals "Panel" = some (some (.ref C_Panel)))
    (pg_Panel : PySem.W.plainGet K C_Panel Str.empty = true) (hd_Panel : PySem.W.hasDictIn K C_Panel = true) (po_Panel : PySem.W.plainOver K C_Panel = true) (sa_Panel : PySem.W.findIn K (.ref C_Panel) "__setattr__" = some (some (.builtin "object.__setattr__")))
    (oc_Panel : mg "Panel" = some (.ref C_Panel) → Cls K C_Panel → OwnC K mg "Panel" ["switches", "rules"])
    (nn_Panel : mg "Panel" = some (.ref C_Panel) → NoNe K mg "Panel")
    (T : Txt K mg)
    (c_CHAIN : ConD K mg "CHAIN" k_CHAIN)
    (c_HEAD : ConD K mg "HEAD" k_HEAD)
    (c_LETTERS : ConD K mg "LETTERS" k_LETTERS)
    (c_LITERAL_WORDS : ConD K mg "LITERAL_WORDS" k_LITERAL_WORDS)
    (c_MOST_GIVEN : ConD K mg "MOST_GIVEN" k_MOST_GIVEN)
    (c_MOST_NAME : ConD K mg "MOST_NAME" k_MOST_NAME)
    (c_MOST_ROW : ConD K mg "MOST_ROW" k_MOST_ROW)
    (c_MOST_RULES : ConD K mg "MOST_RULES" k_MOST_RULES)
    (c_MOST_SEEN : ConD K mg "MOST_SEEN" k_MOST_SEEN)
    (c_MOST_SWITCHES : ConD K mg "MOST_SWITCHES" k_MOST_SWITCHES)
    (c_MOST_WISHED : ConD K mg "MOST_WISHED" k_MOST_WISHED)
    (c_NAME_WORDS : ConD K mg "NAME_WORDS" k_NAME_WORDS)
    (c_SHED : ConD K mg "SHED" k_SHED)
    (c_SIGNS : ConD K mg "SIGNS" k_SIGNS)
    (c_WORDS : ConD K mg "WORDS" k_WORDS)
    (F__law_bag : FunX K mg "_law_bag" s__law_bag)
    (F__law_draw : FunX K mg "_law_draw" s__law_draw)
    (F__law_one : FunX K mg "_law_one" s__law_one)
    (F__law_names : FunX K mg "_law_names" s__law_names)
    (F__law_holds : FunX K mg "_law_holds" s__law_holds)
    (F__law_keeps : FunX K mg "_law_keeps" s__law_keeps)
    (F__law_rule : FunX K mg "_law_rule" s__law_rule)
    (F__law_panel : FunX K mg "_law_panel" s__law_panel)
    (F_is_name : FunX K mg "is_name" s_is_name)
    (F_is_switch : FunX K mg "is_switch" s_is_switch)
    (F_is_sign : FunX K mg "is_sign" s_is_sign)
    (F_is_literal : FunX K mg "is_literal" s_is_literal)
    (F_is_rule : FunX K mg "is_rule" s_is_rule)
    (F_check_switches : FunX K mg "check_switches" s_check_switches)
    (F_check_rules : FunX K mg "check_rules" s_check_rules)
    (F_literal_text : FunX K mg "literal_text" s_literal_text)
    (F_rule_text : FunX K mg "rule_text" s_rule_text)
    (F_read_literal : FunX K mg "read_literal" s_read_literal)
    (F_read_rule : FunX K mg "read_rule" s_read_rule)
    (F__law_made : FunX K mg "_law_made" s__law_made)
    (F_chain : FunX K mg "chain" s_chain)
    (F_shed : FunX K mg "shed" s_shed)
    (F__law_right : FunX K mg "_law_right" s__law_right)
    (F_law : FunX K mg "law" s_law)
    (F_Panel_text : MethF K C_Panel "text" "Panel.text" s_Panel_text)
    (F_Panel___len__ : MethF K C_Panel "__len__" "Panel.__len__" s_Panel___len__)
    (F_Panel___eq__ : MethF K C_Panel "__eq__" "Panel.__eq__" s_Panel___eq__)
    (F_Panel_read : CmF K C_Panel "read" "Panel.read" s_Panel_read)
    (I_Panel : InitF K mg C_Panel "Panel.__init__" s_Panel___init__ dd_Panel) :
    ∃ fd : FuncData, (∀ (s : Shared) (u : Value), BindsTo s fd ⟨[u], []⟩ [("_law_script", u)]) ∧ ∀ base : Heap, K.In base → base.Ns mainGlobals mg → FnG HW.P HW.w K mg base 10 fa fd p_law (spM K mg N_law p_law [] m_law) := by
  have hm_Panel : mg "Panel" = some (.ref C_Panel) := PySem.W.mg_of X G a_Panel
  have cl_Panel : Cls K C_Panel := ⟨pg_Panel, hd_Panel, po_Panel, sa_Panel⟩
  have o_Panel := oc_Panel hm_Panel cl_Panel
  have ne_Panel := nn_Panel hm_Panel
  obtain ⟨fl, fdl, Fl, hml⟩ := F_law
  have e := hfa.symm.trans hml
  cases e
  have Fl0 := Fl
  obtain ⟨oc, od, kV, doc, pm, an, cdv, ct, osl, rfl, lk, hcd⟩ := Fl0.ex
  refine ⟨PySem.W.fnOf "law" "law" (defArgs s_law) (defBody s_law) (defScope s_law) .none kV doc pm an cdv ct, fun s u => .of_eq rfl, fun base _ _ => ?_⟩
  have d__law_bag : DefX HW.P HW.w K mg base 1 "_law_bag" N__law_bag p__law_bag [] m__law_bag := F__law_bag.defX (fun F => x__law_bag F T) (fun _ _ _ _ _ _ us hl => match us, hl with | [_, _], _ => rfl)
  have d__law_draw : DefX HW.P HW.w K mg base 1 "_law_draw" N__law_draw p__law_draw [0] m__law_draw := F__law_draw.defX (fun F => x__law_draw F T) (fun _ _ _ _ _ _ us hl => match us, hl with | [_, _], _ => rfl)
  have d__law_one : DefX HW.P HW.w K mg base 2 "_law_one" N__law_one p__law_one [0] m__law_one := F__law_one.defX (fun F => x__law_one F T d__law_draw) (fun _ _ _ _ _ _ us hl => match us, hl with | [_, _], _ => rfl)
  have d__law_names : DefX HW.P HW.w K mg base 2 "_law_names" N__law_names p__law_names [0] m__law_names := F__law_names.defX (fun F => x__law_names F T d__law_draw) (fun _ _ _ _ _ _ us hl => match us, hl with | [_, _], _ => rfl)
  have d__law_holds : DefX HW.P HW.w K mg base 1 "_law_holds" N__law_holds p__law_holds [] m__law_holds := F__law_holds.defX (fun F => x__law_holds F T) (fun _ _ _ _ _ _ us hl => match us, hl with | [_, _, _], _ => rfl)
  have d__law_keeps : DefX HW.P HW.w K mg base 2 "_law_keeps" N__law_keeps p__law_keeps [] m__law_keeps := F__law_keeps.defX (fun F => x__law_keeps F T d__law_holds) (fun _ _ _ _ _ _ us hl => match us, hl with | [_, _, _], _ => rfl)
  have d__law_rule : DefX HW.P HW.w K mg base 3 "_law_rule" N__law_rule p__law_rule [0] m__law_rule := F__law_rule.defX (fun F => x__law_rule F T d__law_draw d__law_one d__law_keeps) (fun _ _ _ _ _ _ us hl => match us, hl with | [_, _, _, _], _ => rfl)
  have d__law_panel : DefX HW.P HW.w K mg base 4 "_law_panel" N__law_panel p__law_panel [0] m__law_panel := F__law_panel.defX (fun F => x__law_panel F T d__law_names d__law_draw d__law_rule) (fun _ _ _ _ _ _ us hl => match us, hl with | [_, _, _], _ => rfl)
  have d_is_name : DefX HW.P HW.w K mg base 1 "is_name" N_is_name p_is_name [] m_is_name := F_is_name.defX (fun F => x_is_name F T c_WORDS c_LETTERS c_MOST_NAME) (fun _ _ _ _ _ _ us hl => match us, hl with | [_], _ => rfl)
  have d_is_switch : DefX HW.P HW.w K mg base 1 "is_switch" N_is_switch p_is_switch [] m_is_switch := F_is_switch.defX (fun F => x_is_switch F T) (fun _ _ _ _ _ _ us hl => match us, hl with | [_, _], _ => rfl)
  have d_is_sign : DefX HW.P HW.w K mg base 1 "is_sign" N_is_sign p_is_sign [] m_is_sign := F_is_sign.defX (fun F => x_is_sign F T c_SIGNS) (fun _ _ _ _ _ _ us hl => match us, hl with | [_], _ => rfl)
  have d_is_literal : DefX HW.P HW.w K mg base 2 "is_literal" N_is_literal p_is_literal [] m_is_literal := F_is_literal.defX (fun F => x_is_literal F T d_is_sign d_is_switch) (fun _ _ _ _ _ _ us hl => match us, hl with | [_, _], _ => rfl)
  have d_is_rule : DefX HW.P HW.w K mg base 3 "is_rule" N_is_rule p_is_rule [] m_is_rule := F_is_rule.defX (fun F => x_is_rule F T c_LITERAL_WORDS c_NAME_WORDS d_is_literal d_is_switch) (fun _ _ _ _ _ _ us hl => match us, hl with | [_, _], _ => rfl)
  have d_check_switches : DefX HW.P HW.w K mg base 2 "check_switches" N_check_switches p_check_switches [] m_check_switches := F_check_switches.defX (fun F => x_check_switches F T c_MOST_SWITCHES d_is_name) (fun _ _ _ _ _ _ us hl => match us, hl with | [_], _ => rfl)
  have d_check_rules : DefX HW.P HW.w K mg base 4 "check_rules" N_check_rules p_check_rules [] m_check_rules := F_check_rules.defX (fun F => x_check_rules F T c_MOST_RULES d_is_rule) (fun _ _ _ _ _ _ us hl => match us, hl with | [_, _], _ => rfl)
  have d_literal_text : DefX HW.P HW.w K mg base 1 "literal_text" N_literal_text p_literal_text [] m_literal_text := F_literal_text.defX (fun F => x_literal_text F T) (fun _ _ _ _ _ _ us hl => match us, hl with | [_], _ => rfl)
  have d_rule_text : DefX HW.P HW.w K mg base 2 "rule_text" N_rule_text p_rule_text [] m_rule_text := F_rule_text.defX (fun F => x_rule_text F T c_NAME_WORDS d_literal_text) (fun _ _ _ _ _ _ us hl => match us, hl with | [_], _ => rfl)
  have mk0_Panel : MakeX HW.P HW.w K mg base 5 "Panel" N_Panel___init__ p_Panel___init__ [] m_Panel___init__ := I_Panel.makeX hm_Panel 3 (by simp) rfl (fun F => x_Panel___init__ F T o_Panel d_check_switches d_check_rules) (fun _ _ _ _ _ _ _ us its hl hi => match us, hl, its, hi with | [_, _, _], _, [_], _ => ⟨_, rfl, rfl⟩)
  have mk1_Panel : MakeX HW.P HW.w K mg base 5 "Panel" N_Panel___init__ p_Panel___init__ dd_Panel m_Panel___init__ := I_Panel.makeX hm_Panel 2 (by simp) rfl (fun F => x_Panel___init__ F T o_Panel d_check_switches d_check_rules) (fun _ _ _ _ _ _ _ us its hl hi => match us, hl, its, hi with | [_, _], _, [_], _ => ⟨_, rfl, rfl⟩)
  have d_read_literal : DefX HW.P HW.w K mg base 1 "read_literal" N_read_literal p_read_literal [] m_read_literal := F_read_literal.defX (fun F => x_read_literal F T) (fun _ _ _ _ _ _ us hl => match us, hl with | [_], _ => rfl)
  have d_read_rule : DefX HW.P HW.w K mg base 2 "read_rule" N_read_rule p_read_rule [] m_read_rule := F_read_rule.defX (fun F => x_read_rule F T c_NAME_WORDS d_read_literal) (fun _ _ _ _ _ _ us hl => match us, hl with | [_], _ => rfl)
  have d_Panel_read : CmX HW.P HW.w K mg base 7 "Panel" "read" N_Panel_read p_Panel_read m_Panel_read := F_Panel_read.cmX hm_Panel (fun F => x_Panel_read F T c_HEAD mk0_Panel mk1_Panel d_read_rule) (fun _ _ _ _ _ _ us hl => match us, hl with | [_, _], _ => rfl)
  have d_Panel_text : DefM HW.P HW.w K mg base 3 "Panel" "text" N_Panel_text p_Panel_text m_Panel_text := F_Panel_text.defM hm_Panel cl_Panel (fun F => x_Panel_text F T c_HEAD o_Panel d_rule_text) (fun _ _ _ _ _ _ us hl => match us, hl with | [_], _ => rfl)
  have d_Panel___len__ : DefM HW.P HW.w K mg base 1 "Panel" "__len__" N_Panel___len__ p_Panel___len__ m_Panel___len__ := F_Panel___len__.defM hm_Panel cl_Panel (fun F => x_Panel___len__ F T o_Panel) (fun _ _ _ _ _ _ us hl => match us, hl with | [_], _ => rfl)
  have d_Panel___eq__ : DefM HW.P HW.w K mg base 1 "Panel" "__eq__" N_Panel___eq__ p_Panel___eq__ m_Panel___eq__ := F_Panel___eq__.defM hm_Panel cl_Panel (fun F => x_Panel___eq__ F T o_Panel) (fun _ _ _ _ _ _ us hl => match us, hl with | [_, _], _ => rfl)
  have d__law_made : DefX HW.P HW.w K mg base 7 "_law_made" N__law_made p__law_made [] m__law_made := F__law_made.defX (fun F => x__law_made F T mk0_Panel mk1_Panel) (fun _ _ _ _ _ _ us hl => match us, hl with | [_], _ => rfl)
  have d_chain : DefX HW.P HW.w K mg base 8 "chain" N_chain p_chain [] m_chain := F_chain.defX (fun F => x_chain F T c_CHAIN d_Panel_read) (fun _ _ _ _ _ _ us hl => match us, hl with | [], _ => rfl)
  have d_shed : DefX HW.P HW.w K mg base 8 "shed" N_shed p_shed [] m_shed := F_shed.defX (fun F => x_shed F T c_SHED d_Panel_read) (fun _ _ _ _ _ _ us hl => match us, hl with | [], _ => rfl)
  have d__law_right : DefG HW.P HW.w K mg base 9 "_law_right" N__law_right p__law_right [0] m__law_right := F__law_right.defG (fun F => x__law_right F T o_Panel ne_Panel d_Panel___eq__ d_Panel_text d_Panel___len__ d__law_made d__law_panel d_chain d_shed) (fun _ _ _ _ _ _ us hl => match us, hl with | [_], _ => rfl)
  exact x_law Fl T c_MOST_GIVEN c_MOST_SEEN c_MOST_ROW c_MOST_WISHED c_MOST_RULES c_MOST_SWITCHES c_MOST_NAME d_Panel_text d_chain d_shed d__law_right d__law_bag
end Fli
set_option Elab.async false
set_option linter.all false
set_option maxRecDepth 100000
set_option maxHeartbeats 4000000
namespace Fli
open PySem L2

/-! what a mirror comes to -/
def Wp {α : Type} (m : M α) (s : S) (Q : α → S → Prop) : Prop := ∃ a s', m s = some (a, s') ∧ Q a s'
def WS (m : MS) (s : S) (Q : Out → Prop) : Prop := ∃ o, m s = some o ∧ Q o
def thenO (k : S → Prop) (Q : Out → Prop) : Out → Prop
  | .nx s => k s
  | o => Q o
def iteB (k : Bool) (A B : Prop) : Prop := match k with
  | true => A
  | false => B
theorem iteB_t {A B : Prop} (h : A) : iteB true A B := h
theorem iteB_f {A B : Prop} (h : B) : iteB false A B := h
theorem iteB_by {k : Bool} {A B : Prop} (h1 : k = true → A) (h2 : k = false → B) : iteB k A B := by
  cases k with
  | true => exact h1 rfl
  | false => exact h2 rfl
section
variable {α β : Type} {s s1 : S} {Q : α → S → Prop} {R : β → S → Prop} {m : M α}
theorem Wp.mono {Q' : α → S → Prop} (h : Wp m s Q) (q : ∀ a s1, Q a s1 → Q' a s1) : Wp m s Q' := by
  obtain ⟨a, s1, e, z⟩ := h
  exact ⟨a, s1, e, q a s1 z⟩
theorem w_bind {f : α → M β} (h : Wp m s fun a s1 => Wp (f a) s1 R) : Wp (bindM m f) s R := by
  obtain ⟨a, s1, e, b, s2, e2, q⟩ := h
  exact ⟨b, s2, by unfold bindM; rw [e]; exact e2, q⟩
theorem w_ret {a : α} (h : Q a s) : Wp (retM a) s Q := ⟨a, s, rfl, h⟩
theorem w_opt {o : Option α} {a : α} (e : o = some a) (h : Q a s) : Wp (optM o) s Q := ⟨a, s, by unfold optM; rw [e]; rfl, h⟩
theorem w_ifM {c : M Bool} {a b : M α} (h : Wp c s fun k s1 => iteB k (Wp a s1 Q) (Wp b s1 Q)) : Wp (ifM c a b) s Q := w_bind (h.mono fun k s1 z => by cases k <;> exact z)
end
section
variable {s s1 : S} {Q : D → S → Prop} {QB : Bool → S → Prop} {QO : O → S → Prop} {a b m : M D} {c c1 c2 : M Bool}
theorem w_var {i : Nat} {d : D} (e : s[i]? = some (some (.d d))) (h : Q d s) : Wp (mVar i) s Q := ⟨d, s, by unfold mVar; rw [e], h⟩
theorem w_bin {f : D → D → Option D} (h : Wp a s fun x s1 => Wp b s1 fun y s2 => Wp (optM (f x y)) s2 Q) : Wp (mBin f a b) s Q := w_bind (h.mono fun _ _ z => w_bind z)
theorem w_andB (h : Wp c1 s fun k s1 => iteB k (Wp c2 s1 QB) (QB false s1)) : Wp (andB c1 c2) s QB := w_bind (h.mono fun k s1 z => by cases k; exact w_ret z; exact z)
theorem w_orB (h : Wp c1 s fun k s1 => iteB k (QB true s1) (Wp c2 s1 QB)) : Wp (orB c1 c2) s QB := w_bind (h.mono fun k s1 z => by cases k; exact z; exact w_ret z)
theorem w_andV (h : Wp a s fun x s1 => ∃ k, truD x = some k ∧ iteB k (Wp b s1 Q) (Q x s1)) : Wp (andV a b) s Q := w_bind (h.mono fun x s1 ⟨k, e, z⟩ => w_bind (w_opt e (by cases k; exact w_ret z; exact z)))
theorem w_orV (h : Wp a s fun x s1 => ∃ k, truD x = some k ∧ iteB k (Q x s1) (Wp b s1 Q)) : Wp (orV a b) s Q := w_bind (h.mono fun x s1 ⟨k, e, z⟩ => w_bind (w_opt e (by cases k; exact z; exact w_ret z)))
theorem w_frzD {i : Nat} {d : D} (e : s[i]? = some (some (.d d))) (h : Q d s) : Wp (frzN i) s Q := ⟨d, s, by unfold frzN; rw [e], h⟩
theorem w_frzO {i : Nat} {o : O} (e : s[i]? = some (some (.own o))) (h : Q o.d (s.set i (some (.d o.d)))) : Wp (frzN i) s Q := ⟨o.d, _, by unfold frzN; rw [e], h⟩
theorem w_mul {i j : Int} (c : CMul i j) (h : Q (.int (i * j)) s) : Wp (optM (mulD (.int i) (.int j))) s Q := w_opt (by show (if CMul i j then some (D.int (i * j)) else none) = _; rw [if_pos c]) h
theorem w_div {i j : Int} (c : CDivN i j) (h : Q (.int (i.fdiv j)) s) : Wp (optM (divD (.int i) (.int j))) s Q := w_opt (by show (if CDivN i j then some (D.int (i.fdiv j)) else none) = _; rw [if_pos c]) h
theorem w_mod {i j : Int} (c : j ≠ 0) (h : Q (.int (i.fmod j)) s) : Wp (optM (modD (.int i) (.int j))) s Q := w_opt (by show (if j ≠ 0 then some (D.int (i.fmod j)) else none) = _; rw [if_pos c]) h
theorem w_pow {i j : Int} (c : CPow i j) (h : Q (.int (i ^ j.toNat)) s) : Wp (optM (powD (.int i) (.int j))) s Q := w_opt (by show (if CPow i j then some (D.int (i ^ j.toNat)) else none) = _; rw [if_pos c]) h
theorem w_lstM {ds : List D} (c : ds.length ≤ sizeLine) (h : QO (.lst ds) s) : Wp (optM (lstM ds)) s QO := w_opt (by unfold lstM; rw [if_pos c]) h
theorem w_tupM {ds : List D} (c : ds.length ≤ sizeLine) (h : Q (.tup ds) s) : Wp (optM (tupM ds)) s Q := w_opt (by unfold tupM; rw [if_pos c]) h
theorem mLs_d {i : Nat} {ds : List D} (e : s[i]? = some (some (.d (.lst ds)))) : mLs i s = some (ds, s) := by unfold mLs; rw [e]
theorem mLs_o {i : Nat} {ds : List D} (e : s[i]? = some (some (.own (.lst ds)))) : mLs i s = some (ds, s) := by unfold mLs; rw [e]
theorem w_ixO {i : Nat} {ds : List D} {d : D} {j : Int} (e : s[i]? = some (some (.own (.lst ds)))) (e2 : atI ds j = some d) (h : Q d s) : Wp (ixN i (retM (.int j))) s Q := w_bind ⟨ds, s, mLs_o e, w_bind (w_ret (w_bind ⟨ds, s, mLs_o e, w_opt e2 h⟩))⟩
theorem w_ixD {i : Nat} {ds : List D} {d : D} {j : Int} (e : s[i]? = some (some (.d (.lst ds)))) (e2 : atI ds j = some d) (h : Q d s) : Wp (ixN i (retM (.int j))) s Q := w_bind ⟨ds, s, mLs_d e, w_bind (w_ret (w_bind ⟨ds, s, mLs_d e, w_opt e2 h⟩))⟩
theorem w_lenO {i : Nat} {ds : List D} (e : s[i]? = some (some (.own (.lst ds)))) (h : Q (.int ds.length) s) : Wp (lenN i) s Q := w_bind ⟨ds, s, mLs_o e, w_ret h⟩
end
section
variable {s : S} {Q : Out → Prop} {a b : MS} {m : M D} {mo : M O} {c : M Bool}
theorem WS.mono {Q' : Out → Prop} (h : WS a s Q) (q : ∀ o, Q o → Q' o) : WS a s Q' := by
  obtain ⟨o, e, z⟩ := h
  exact ⟨o, e, q o z⟩
theorem v_seq (h : WS a s (thenO (fun s1 => WS b s1 Q) Q)) : WS (seqM a b) s Q := by
  obtain ⟨o, e, z⟩ := h
  cases o with
  | nx s1 =>
    obtain ⟨o2, e2, q⟩ := z
    exact ⟨o2, by unfold seqM; rw [e]; exact e2, q⟩
  | _ => exact ⟨_, by unfold seqM; rw [e]; rfl, z⟩
theorem v_nx (h : Q (.nx s)) : WS nxM s Q := ⟨_, rfl, h⟩
theorem v_ret (h : Wp m s fun d s1 => Q (.rd d s1)) : WS (retMS m) s Q := by
  obtain ⟨d, s1, e, q⟩ := h
  exact ⟨_, by unfold retMS; rw [e]; rfl, q⟩
theorem v_retO (h : Wp mo s fun d s1 => Q (.ro d s1)) : WS (retOS mo) s Q := by
  obtain ⟨d, s1, e, q⟩ := h
  exact ⟨_, by unfold retOS; rw [e]; rfl, q⟩
theorem v_if (h : Wp c s fun k s1 => iteB k (WS a s1 Q) (WS b s1 Q)) : WS (ifS c a b) s Q := by
  obtain ⟨k, s1, e, z⟩ := h
  cases k with
  | true => obtain ⟨o, e2, q⟩ := z; exact ⟨o, by unfold ifS; rw [e]; exact e2, q⟩
  | false => obtain ⟨o, e2, q⟩ := z; exact ⟨o, by unfold ifS; rw [e]; exact e2, q⟩
theorem v_asgF {f : D → S → Option S} (h : Wp m s fun d s1 => ∃ s2, f d s1 = some s2 ∧ Q (.nx s2)) : WS (asgM m f) s Q := by
  obtain ⟨d, s1, e, s2, e2, q⟩ := h
  exact ⟨_, by unfold asgM; rw [e]; show Option.map _ (f d s1) = _; rw [e2]; rfl, q⟩
theorem v_asg {i : Nat} (h : Wp m s fun d s1 => Q (.nx (s1.set i (some (.d d))))) : WS (asgM m (setF i)) s Q := v_asgF (h.mono fun d s1 z => ⟨_, rfl, z⟩)
theorem v_asgO {i : Nat} (h : Wp mo s fun o s1 => Q (.nx (s1.set i (some (.own o))))) : WS (asgO mo i) s Q := by
  obtain ⟨d, s1, e, q⟩ := h
  exact ⟨_, by unfold asgO; rw [e]; rfl, q⟩
theorem v_drop (h : Wp m s fun d s1 => Q (.nx s1)) : WS (dropM m) s Q := by
  obtain ⟨d, s1, e, q⟩ := h
  exact ⟨_, by unfold dropM; rw [e]; rfl, q⟩
theorem v_par {i j : Nat} {ms : M (List D)} (h : Wp ms s fun ds s1 => ∃ x y, ds = [x, y] ∧ Q (.nx ((s1.set i (some (.d x))).set j (some (.d y))))) : WS (parM i j ms) s Q := by
  obtain ⟨ds, s1, e, x, y, rfl, q⟩ := h
  exact ⟨_, by unfold parM; rw [e]; rfl, q⟩
theorem v_put {i : Nat} {mi : M D} (h : Wp m s fun d s1 => ∃ ds, s1[i]? = some (some (.own (.lst ds))) ∧ Wp mi s1 fun j s2 => ∃ es n k, s2[i]? = some (some (.own (.lst es))) ∧ j = .int n ∧ L2.ixN es.length n = some k ∧ Q (.nx (s2.set i (some (.own (.lst (es.set k d))))))) : WS (putN i mi m) s Q := by
  obtain ⟨d, s1, e, ds, e1, j, s2, e2, es, n, k, e3, rfl, e4, q⟩ := h
  have e4 : putN.ixN' es.length n = some k := e4
  refine ⟨_, ?_, q⟩
  unfold putN
  simp only [bindM, e, Option.bind, mOwn, e1, e2, e3, optM, intD, e4, mPut, Option.map]
theorem v_app {i : Nat} (h : Wp m s fun d s1 => ∃ es, s1[i]? = some (some (.own (.lst es))) ∧ es.length < sizeLine ∧ Q (.nx (s1.set i (some (.own (.lst (es ++ [d]))))))) {ds : List D} (e0 : s[i]? = some (some (.own (.lst ds)))) : WS (appN i m) s Q := by
  obtain ⟨d, s1, e, es, e1, e2, q⟩ := h
  refine ⟨_, ?_, q⟩
  unfold appN
  simp only [bindM, e0, e, Option.bind, mOwn, e1, if_pos e2, optM, mPut, Option.map]
end
/-! loops -/
section
variable {Q : Out → Prop} {asg : D → S → Option S} {b : MS}
theorem loopM_cons {d : D} {ds : List D} {s : S} : loopM asg b (d :: ds) s = (asg d s).bind fun s1 => (b s1).bind fun o => match o with
    | .nx s2 => loopM asg b ds s2
    | .ct s2 => loopM asg b ds s2
    | .bk s2 => some (.nx s2)
    | r => some r := rfl
/-- items one behind another; inv: what holds before each of them -/
theorem loop_ok {inv : List D → S → Prop} (step : ∀ d ds s, inv (d :: ds) s → ∃ s1, asg d s = some s1 ∧ WS b s1 fun o => match o with
    | .nx s2 => inv ds s2
    | .ct s2 => inv ds s2
    | .bk s2 => Q (.nx s2)
    | r => Q r) (done : ∀ s, inv [] s → Q (.nx s)) : ∀ (ds : List D) (s : S), inv ds s → WS (loopM asg b ds) s Q
  | [], s, h => ⟨_, rfl, done s h⟩
  | d :: ds, s, h => by
    obtain ⟨s1, e1, o, e2, z⟩ := step d ds s h
    have go : ∀ s2, inv ds s2 → WS (loopM asg b ds) s2 Q := loop_ok step done ds
    cases o with
    | nx s2 => obtain ⟨o, e, q⟩ := go s2 z; exact ⟨o, by rw [loopM_cons, e1]; show (b s1).bind _ = _; rw [e2]; exact e, q⟩
    | ct s2 => obtain ⟨o, e, q⟩ := go s2 z; exact ⟨o, by rw [loopM_cons, e1]; show (b s1).bind _ = _; rw [e2]; exact e, q⟩
    | bk s2 => exact ⟨_, by rw [loopM_cons, e1]; show (b s1).bind _ = _; rw [e2]; rfl, z⟩
    | rd d s2 => exact ⟨_, by rw [loopM_cons, e1]; show (b s1).bind _ = _; rw [e2]; rfl, z⟩
    | ro d s2 => exact ⟨_, by rw [loopM_cons, e1]; show (b s1).bind _ = _; rw [e2]; rfl, z⟩
theorem v_forR {s : S} {ms : M (List D)} {rng : List D → Option (List D)} (h : Wp ms s fun xs s1 => ∃ ds, rng xs = some ds ∧ WS (loopM asg b ds) s1 Q) : WS (forR ms rng asg b) s Q := by
  obtain ⟨xs, s1, e, ds, e1, o, e2, q⟩ := h
  exact ⟨o, by unfold forR; rw [e]; show (rng xs).bind _ = _; rw [e1]; exact e2, q⟩
theorem v_forL {s : S} {mi : M D} (h : Wp mi s fun x s1 => ∃ ds, itD x = some ds ∧ WS (loopM asg b ds) s1 Q) : WS (forL mi asg b) s Q := by
  obtain ⟨xs, s1, e, ds, e1, o, e2, q⟩ := h
  exact ⟨o, by unfold forL; rw [e]; show (itD xs).bind _ = _; rw [e1]; exact e2, q⟩
theorem v_forE {s : S} {mi : M D} {fs : List D → S → Option S} (h : Wp mi s fun x s1 => ∃ ds, tupLs x = some ds ∧ WS (loopM (tupF 2 fs) b (enumD ds)) s1 Q) : WS (forE mi fs b) s Q := by
  obtain ⟨xs, s1, e, ds, e1, o, e2, q⟩ := h
  exact ⟨o, by unfold forE; rw [e]; show (tupLs xs).bind _ = _; rw [e1]; exact e2, q⟩
end
/-! comprehensions: each item's value by its own -/
section
variable {vs : List Nat} {asg : D → S → Option S} {c : M Bool} {elt : M D}
theorem comp_ok {inv : List D → List D → S → Prop} (step : ∀ d ds acc s, inv (d :: ds) acc s → ∃ s1, asg d s = some s1 ∧ Wp c s1 fun k s2 => iteB k (Wp elt s2 fun y s3 => acc.length < sizeLine ∧ inv ds (acc ++ [y]) (wipeS vs s3)) (inv ds acc (wipeS vs s2))) :
    ∀ (ds acc : List D) (s : S), inv ds acc s → ∃ r, compL vs asg c elt ds acc s = some r ∧ inv [] r.1 r.2
  | [], acc, s, h => ⟨(acc, s), rfl, h⟩
  | d :: ds, acc, s, h => by
    obtain ⟨s1, e1, k, s2, e2, z⟩ := step d ds acc s h
    unfold compL
    rw [e1]
    show ∃ r, (c s1).bind _ = some r ∧ _
    rw [e2]
    cases k with
    | false => exact comp_ok step ds acc _ z
    | true =>
      obtain ⟨y, s3, e3, l, z⟩ := z
      obtain ⟨r, e4, q⟩ := comp_ok step ds _ _ z
      refine ⟨r, ?_, q⟩
      show (elt s2).bind _ = some r
      rw [e3]
      show (if acc.length < sizeLine then _ else none) = some r
      rw [if_pos l]
      exact e4
theorem w_comp {Q : O → S → Prop} {s : S} {items : List D} {inv : List D → List D → S → Prop} (hn : noOwn vs s = true) (h0 : inv items [] (wipeS vs s))
    (step : ∀ d ds acc s, inv (d :: ds) acc s → ∃ s1, asg d s = some s1 ∧ Wp c s1 fun k s2 => iteB k (Wp elt s2 fun y s3 => acc.length < sizeLine ∧ inv ds (acc ++ [y]) (wipeS vs s3)) (inv ds acc (wipeS vs s2)))
    (done : ∀ acc s2, inv [] acc s2 → Q (.lst acc) (restS s vs s2)) : Wp (compM vs asg c elt items) s Q := by
  obtain ⟨r, e, q⟩ := comp_ok step items [] _ h0
  exact ⟨.lst r.1, _, by unfold compM; rw [if_pos hn, e]; rfl, done _ _ q⟩
theorem w_cplR {Q : O → S → Prop} {s : S} {ms : M (List D)} {rng : List D → Option (List D)} (h : Wp ms s fun xs s1 => ∃ ds, rng xs = some ds ∧ Wp (compM vs asg c elt ds) s1 Q) : Wp (cplR ms rng vs asg c elt) s Q := by
  obtain ⟨xs, s1, e, ds, e1, o, s2, e2, q⟩ := h
  exact ⟨o, s2, by unfold cplR; rw [e]; show (rng xs).bind _ = _; rw [e1]; exact e2, q⟩
theorem w_cplL {Q : O → S → Prop} {s : S} {mi : M D} (h : Wp mi s fun x s1 => ∃ ds, itD x = some ds ∧ Wp (compM vs asg c elt ds) s1 Q) : Wp (cplL mi vs asg c elt) s Q := by
  obtain ⟨xs, s1, e, ds, e1, o, s2, e2, q⟩ := h
  exact ⟨o, s2, by unfold cplL; rw [e]; show (itD xs).bind _ = _; rw [e1]; exact e2, q⟩
end
/-! calls: by what the body comes to -/
section
variable {n : Nat} {body : MS} {s : S} {Q : D → S → Prop} {ms : M (List D)}
theorem w_callD {dd : List D} (h : Wp ms s fun xs s1 => WS body (startS n ((xs ++ dd).map .d)) fun o => match o with
    | .rd d _ => Q d s1
    | .nx _ => Q .non s1
    | _ => False) : Wp (callD n body ms dd) s Q := by
  obtain ⟨xs, s1, e, o, e1, q⟩ := h
  cases o with
  | rd d s2 => exact ⟨d, s1, by unfold callD callR; rw [e]; show (body _).bind _ = _; rw [e1]; rfl, q⟩
  | nx s2 => exact ⟨_, s1, by unfold callD callR; rw [e]; show (body _).bind _ = _; rw [e1]; rfl, q⟩
  | _ => exact q.elim
theorem w_callO {QO : O → S → Prop} {dd : List D} (h : Wp ms s fun xs s1 => WS body (startS n ((xs ++ dd).map .d)) fun o => match o with
    | .ro d _ => QO d s1
    | _ => False) : Wp (callO n body ms dd) s QO := by
  obtain ⟨xs, s1, e, o, e1, q⟩ := h
  cases o with
  | ro d s2 => exact ⟨d, s1, by unfold callO callR; rw [e]; show (body _).bind _ = _; rw [e1]; rfl, q⟩
  | _ => exact q.elim
theorem w_lendD {i : Nat} {o0 : O} (e0 : slotO i s = some o0) (h : Wp ms s fun xs s1 => ∃ o1, slotO i s1 = some o1 ∧ WS body (startS n (.own o1 :: xs.map .d)) fun o => match o with
    | .rd d s2 => ∃ o', firstO s2 = some o' ∧ Q d (s1.set i (some (.own o')))
    | .nx s2 => ∃ o', firstO s2 = some o' ∧ Q .non (s1.set i (some (.own o')))
    | _ => False) : Wp (lendD n body i ms) s Q := by
  obtain ⟨xs, s1, e, o1, e2, o, e1, q⟩ := h
  cases o with
  | rd d s2 => obtain ⟨o', e3, q⟩ := q; exact ⟨d, _, by unfold lendD callR; rw [e0]; show (ms s).bind _ = _; rw [e]; show (slotO i s1).bind _ = _; rw [e2]; show (body _).bind _ = _; rw [e1]; show (firstO s2).map _ = _; rw [e3]; rfl, q⟩
  | nx s2 => obtain ⟨o', e3, q⟩ := q; exact ⟨_, _, by unfold lendD callR; rw [e0]; show (ms s).bind _ = _; rw [e]; show (slotO i s1).bind _ = _; rw [e2]; show (body _).bind _ = _; rw [e1]; show (firstO s2).map _ = _; rw [e3]; rfl, q⟩
  | _ => exact q.elim
theorem w_lendO {i : Nat} {o0 : O} {QO : O → S → Prop} (e0 : slotO i s = some o0) (h : Wp ms s fun xs s1 => ∃ o1, slotO i s1 = some o1 ∧ WS body (startS n (.own o1 :: xs.map .d)) fun o => match o with
    | .ro d s2 => ∃ o', firstO s2 = some o' ∧ QO d (s1.set i (some (.own o')))
    | _ => False) : Wp (lendO n body i ms) s QO := by
  obtain ⟨xs, s1, e, o1, e2, o, e1, q⟩ := h
  cases o with
  | ro d s2 => obtain ⟨o', e3, q⟩ := q; exact ⟨d, _, by unfold lendO callR; rw [e0]; show (ms s).bind _ = _; rw [e]; show (slotO i s1).bind _ = _; rw [e2]; show (body _).bind _ = _; rw [e1]; show (firstO s2).map _ = _; rw [e3]; rfl, q⟩
  | _ => exact q.elim
theorem w_giveD {mo : M O} (h : Wp mo s fun o1 s1 => WS body (startS n [.own o1]) fun o => match o with
    | .rd d _ => Q d s1
    | .nx _ => Q .non s1
    | _ => False) : Wp (giveD n body mo) s Q := by
  obtain ⟨xs, s1, e, o, e1, q⟩ := h
  cases o with
  | rd d s2 => exact ⟨d, s1, by unfold giveD callR; rw [e]; show (body _).bind _ = _; rw [e1]; rfl, q⟩
  | nx s2 => exact ⟨_, s1, by unfold giveD callR; rw [e]; show (body _).bind _ = _; rw [e1]; rfl, q⟩
  | _ => exact q.elim
end
theorem w_binO {f : D → D → Option O} {a b : M D} {s : S} {Q : O → S → Prop} (h : Wp a s fun x s1 => Wp b s1 fun y s2 => Wp (optM (f x y)) s2 Q) : Wp (mBinO f a b) s Q := w_bind (h.mono fun _ _ z => w_bind z)
theorem own_of {n : Nat} {body : MS} {as : List D} {d : D} (h : WS body (startS n (as.map .d)) fun out => ∃ s2, out = .rd d s2) : ownM n body as = some d := by
  obtain ⟨o, e, s2, rfl⟩ := h
  unfold ownM callR
  rw [e]
  rfl
theorem own_nx {n : Nat} {body : MS} {as : List D} (h : WS body (startS n (as.map .d)) fun out => ∃ s2, out = .nx s2) : ownM n body as = some .non := by
  obtain ⟨o, e, s2, rfl⟩ := h
  unfold ownM callR
  rw [e]
  rfl
theorem w_own {n : Nat} {body : MS} {s : S} {Q : D → S → Prop} {ms : M (List D)} {d : D} {as : List D} (o : ownM n body as = some d) (h : Wp ms s fun xs s1 => xs = as ∧ Q d s1) : Wp (callD n body ms []) s Q := by
  obtain ⟨xs, s1, e, rfl, q⟩ := h
  unfold ownM at o
  simp only [Option.bind_eq_some_iff] at o
  obtain ⟨r, e2, o⟩ := o
  refine w_callD ⟨xs, s1, e, r, by rw [List.append_nil]; exact e2, ?_⟩
  cases r with
  | rd x s2 => cases o; exact q
  | nx s2 => cases o; exact q
  | _ => cases o
/-! comprehensions that leave all as it is -/
section
variable {α β : Type} {vs vs1 : List Nat} {asg asg1 : D → S → Option S} {c c1 : M Bool} {elt : M D} {s0 : S}
theorem comp_fun {e : α → D} {p : α → Bool} {f : α → D} : ∀ (xs : List α) (acc : List D), (∀ a ∈ xs, ∃ s1, asg (e a) s0 = some s1 ∧ Wp c s1 fun k s2 => k = p a ∧ iteB k (Wp elt s2 fun y s3 => y = f a ∧ wipeS vs s3 = s0) (wipeS vs s2 = s0)) → acc.length + xs.length ≤ sizeLine →
    compL vs asg c elt (xs.map e) acc s0 = some (acc ++ (xs.filter p).map f, s0)
  | [], acc, _, _ => by simp [compL]
  | a :: xs, acc, h, l => by
    obtain ⟨s1, e1, k, s2, e2, hk, z⟩ := h a (by simp)
    have ih := fun acc l => comp_fun (e := e) (p := p) (f := f) xs acc (fun y hy => h y (by simp [hy])) l
    simp only [List.length_cons] at l
    show (asg (e a) s0).bind _ = _
    rw [e1, Option.bind_some, e2, Option.bind_some]
    cases k with
    | false =>
      show compL vs asg c elt (xs.map e) acc (wipeS vs s2) = _
      have z : wipeS vs s2 = s0 := z
      rw [z, ih acc (by omega), List.filter_cons_of_neg (by rw [← hk]; decide)]
    | true =>
      obtain ⟨y, s3, e3, rfl, z⟩ := z
      show (elt s2).bind _ = _
      rw [e3, Option.bind_some]
      show (if acc.length < sizeLine then compL vs asg c elt (xs.map e) (acc ++ [f a]) (wipeS vs s3) else none) = _
      rw [if_pos (by omega), z, ih (acc ++ [f a]) (by simp; omega), List.filter_cons_of_pos (by rw [← hk]), List.map_cons, List.append_assoc, List.singleton_append]
theorem w_compF {e : α → D} {p : α → Bool} {f : α → D} {s : S} {Q : O → S → Prop} {items : List D} (xs : List α) (hi : items = xs.map e) (hn : noOwn vs s = true) (l : xs.length ≤ sizeLine)
    (h : ∀ a ∈ xs, ∃ s1, asg (e a) (wipeS vs s) = some s1 ∧ Wp c s1 fun k s2 => k = p a ∧ iteB k (Wp elt s2 fun y s3 => y = f a ∧ wipeS vs s3 = wipeS vs s) (wipeS vs s2 = wipeS vs s)) (q : Q (.lst ((xs.filter p).map f)) (restS s vs (wipeS vs s))) : Wp (compM vs asg c elt items) s Q := by
  subst hi
  refine ⟨.lst ((xs.filter p).map f), restS s vs (wipeS vs s), ?_, q⟩
  unfold compM
  rw [if_pos hn, comp_fun (e := e) (p := p) (f := f) xs [] h (by simpa using l)]
  simp
theorem lc2_fun {inn : M (List D)} {e : α → D} {g : α → List β} {e1 : β → D} {f : α → β → D} : ∀ (xs : List α) (acc : List D), (∀ a ∈ xs, ∃ s1, asg (e a) s0 = some s1 ∧ Wp c s1 fun k s2 => k = true ∧ Wp inn s2 fun es s3 => es = (g a).map e1 ∧ wipeS vs (wipeS vs1 s3) = s0 ∧
      ∀ y ∈ g a, ∃ s4, asg1 (e1 y) (wipeS vs1 s3) = some s4 ∧ Wp c1 s4 fun k s5 => k = true ∧ Wp elt s5 fun d s6 => d = f a y ∧ wipeS vs1 s6 = wipeS vs1 s3) → acc.length + (xs.flatMap g).length ≤ sizeLine →
    lc2L vs asg c inn vs1 asg1 c1 elt (xs.map e) acc s0 = some (acc ++ xs.flatMap (fun a => (g a).map (f a)), s0)
  | [], acc, _, _ => by simp [lc2L]
  | a :: xs, acc, h, l => by
    obtain ⟨s1, h1, k, s2, h2, rfl, es, s3, h3, rfl, hw, hy⟩ := h a (by simp)
    rw [List.flatMap_cons, List.length_append] at l
    have inner := comp_fun (vs := vs1) (asg := asg1) (c := c1) (elt := elt) (s0 := wipeS vs1 s3) (e := e1) (p := fun _ => true) (f := f a) (g a) acc (fun y my => by
      obtain ⟨s4, a1, k, s5, a2, rfl, d, s6, a3, rfl, a4⟩ := hy y my
      exact ⟨s4, a1, true, s5, a2, rfl, f a y, s6, a3, rfl, a4⟩) (by omega)
    rw [List.filter_eq_self.mpr fun _ _ => rfl] at inner
    have ih := lc2_fun (inn := inn) (e := e) (g := g) (e1 := e1) (f := f) xs (acc ++ (g a).map (f a)) (fun y my => h y (by simp [my])) (by rw [List.length_append, List.length_map]; omega)
    show (asg (e a) s0).bind _ = _
    rw [h1, Option.bind_some, h2, Option.bind_some]
    show (inn s2).bind _ = _
    rw [h3, Option.bind_some]
    show (compL vs1 asg1 c1 elt ((g a).map e1) acc (wipeS vs1 s3)).bind _ = _
    rw [inner, Option.bind_some]
    show lc2L vs asg c inn vs1 asg1 c1 elt (xs.map e) (acc ++ (g a).map (f a)) (wipeS vs (wipeS vs1 s3)) = _
    rw [hw, ih, List.flatMap_cons, List.append_assoc]
theorem w_lc2 {mi inn : M (List D)} {e : α → D} {g : α → List β} {e1 : β → D} {f : α → β → D} {s : S} {Q : O → S → Prop} (xs : List α) (hm : Wp mi s fun items s' => items = xs.map e ∧ noOwn vs s' = true ∧ (xs.flatMap g).length ≤ sizeLine ∧ (∀ a ∈ xs, ∃ s1, asg (e a) (wipeS vs s') = some s1 ∧ Wp c s1 fun k s2 => k = true ∧ Wp inn s2 fun es s3 => es = (g a).map e1 ∧ wipeS vs (wipeS vs1 s3) = wipeS vs s' ∧
      ∀ y ∈ g a, ∃ s4, asg1 (e1 y) (wipeS vs1 s3) = some s4 ∧ Wp c1 s4 fun k s5 => k = true ∧ Wp elt s5 fun d s6 => d = f a y ∧ wipeS vs1 s6 = wipeS vs1 s3) ∧ Q (.lst (xs.flatMap fun a => (g a).map (f a))) (restS s' vs (wipeS vs s'))) : Wp (lc2M mi vs asg c inn vs1 asg1 c1 elt) s Q := by
  obtain ⟨items, s', h1, rfl, hn, l, h, q⟩ := hm
  refine ⟨_, _, ?_, q⟩
  unfold lc2M
  rw [h1, Option.bind_some]
  show (if noOwn vs s' = true then (lc2L vs asg c inn vs1 asg1 c1 elt (xs.map e) [] (wipeS vs s')).map _ else none) = _
  rw [if_pos hn, lc2_fun (inn := inn) (e := e) (g := g) (e1 := e1) (f := f) xs [] h (by simpa using l)]
  simp
/-- a dict: keys one behind another, none twice -/
theorem putP_new {κ γ : Type} [DecidableEq κ] {kvs : List (κ × γ)} {k : κ} {y : γ} (h : k ∉ kvs.map (·.1)) : putP kvs k y = kvs ++ [(k, y)] := by
  unfold putP
  rw [if_neg]
  intro z
  rw [List.any_eq_true] at z
  obtain ⟨q, hq, e⟩ := z
  exact h (List.mem_map.mpr ⟨q, hq, of_decide_eq_true e⟩)
theorem dc_fun {kx vx : M D} {e : α → D} {k : α → Key} {v : α → D} : ∀ (xs : List α) (acc : List (Key × D)), (∀ a ∈ xs, ∃ s1, asg (e a) s0 = some s1 ∧ Wp c s1 fun b s2 => b = true ∧ Wp kx s2 fun y s3 => keyD y = some (k a) ∧ Wp vx s3 fun z s4 => z = v a ∧ wipeS vs s4 = s0) → acc.length + xs.length ≤ sizeLine → (acc.map (·.1) ++ xs.map k).Nodup →
    dcL vs asg c kx vx (xs.map e) acc s0 = some (acc ++ xs.map fun a => (k a, v a), s0)
  | [], acc, _, _, _ => by simp [dcL]
  | a :: xs, acc, h, l, nd => by
    obtain ⟨s1, h1, b, s2, h2, rfl, y, s3, h3, hk, z, s4, h4, rfl, hw⟩ := h a (by simp)
    simp only [List.length_cons] at l
    have nk : k a ∉ acc.map (·.1) := by
      rw [List.map_cons, List.nodup_append] at nd
      exact fun q => nd.2.2 _ q _ (by simp) rfl
    have ih := dc_fun (kx := kx) (vx := vx) (e := e) (k := k) (v := v) xs (acc ++ [(k a, v a)]) (fun y my => h y (by simp [my])) (by simp; omega) (by simpa using nd)
    show (asg (e a) s0).bind _ = _
    rw [h1, Option.bind_some, h2, Option.bind_some]
    show (kx s2).bind _ = _
    rw [h3, Option.bind_some, h4, Option.bind_some, hk, Option.bind_some, if_pos (by omega), putP_new nk]
    show dcL vs asg c kx vx (xs.map e) (acc ++ [(k a, v a)]) (wipeS vs s4) = _
    rw [hw, ih, List.map_cons, List.append_assoc, List.singleton_append]
theorem w_dc {mi : M (List D)} {kx vx : M D} {e : α → D} {k : α → Key} {v : α → D} {s : S} {Q : O → S → Prop} (xs : List α) (hm : Wp mi s fun items s' => items = xs.map e ∧ noOwn vs s' = true ∧ xs.length ≤ sizeLine ∧ (xs.map k).Nodup ∧ (∀ a ∈ xs, ∃ s1, asg (e a) (wipeS vs s') = some s1 ∧ Wp c s1 fun b s2 => b = true ∧ Wp kx s2 fun y s3 => keyD y = some (k a) ∧ Wp vx s3 fun z s4 => z = v a ∧ wipeS vs s4 = wipeS vs s') ∧
      Q (.dic (xs.map fun a => (k a, v a))) (restS s' vs (wipeS vs s'))) : Wp (dcM mi vs asg c kx vx) s Q := by
  obtain ⟨items, s', h1, rfl, hn, l, nd, h, q⟩ := hm
  refine ⟨_, _, ?_, q⟩
  unfold dcM
  rw [h1, Option.bind_some]
  show (if noOwn vs s' = true then (dcL vs asg c kx vx (xs.map e) [] (wipeS vs s')).map _ else none) = _
  rw [if_pos hn, dc_fun (kx := kx) (vx := vx) (e := e) (k := k) (v := v) xs [] h (by simpa using l) (by simpa using nd)]
  simp
end
theorem thenO_nx {k : S → Prop} {Q : Out → Prop} {s : S} (h : k s) : thenO k Q (.nx s) := h
theorem thenO_rd {k : S → Prop} {Q : Out → Prop} {d : D} {s : S} (h : Q (.rd d s)) : thenO k Q (.rd d s) := h
theorem thenO_ro {k : S → Prop} {Q : Out → Prop} {d : O} {s : S} (h : Q (.ro d s)) : thenO k Q (.ro d s) := h
theorem w_slM {α : Type} {f : D → Option Int → Option Int → Option α} {a : M D} {l u : M (Option Int)} {s : S} {Q : α → S → Prop} (h : Wp a s fun x s1 => Wp l s1 fun lo s2 => Wp u s2 fun hi s3 => Wp (optM (f x lo hi)) s3 Q) : Wp (slM f a l u) s Q := w_bind (h.mono fun _ _ z => w_bind (z.mono fun _ _ z => w_bind z))
theorem w_chM {f g : D → D → Option D} {a b c : M D} {s : S} {Q : D → S → Prop} (h : Wp a s fun x s1 => Wp b s1 fun y s2 => ∃ k, f x y = some (.bl k) ∧ iteB k (Wp c s2 fun z s3 => Wp (optM (g y z)) s3 Q) (Q (.bl false) s2)) : Wp (chM f g a b c) s Q :=
  w_bind (h.mono fun x s1 z => w_bind (z.mono fun y s2 ⟨k, e, q⟩ => w_bind (w_opt e (by cases k; exact w_ret q; exact w_bind q))))
theorem iteB_tt {k : Bool} {A B : Prop} (e : k = true) (h : A) : iteB k A B := by subst e; exact h
theorem iteB_ff {k : Bool} {A B : Prop} (e : k = false) (h : B) : iteB k A B := by subst e; exact h
theorem tru_go {x : D} {k : Bool} {A B : Prop} (e : truD x = some k) (h : iteB k A B) : ∃ k, truD x = some k ∧ iteB k A B := ⟨k, e, h⟩
theorem shaped_str {x : Str} : SeqAt.shaped (.str x) = PyData.strOk x := by unfold SeqAt.shaped; simp [PyData.canLay0, PyData.depth]
theorem w_eqS {neg : Bool} {a b : Str} {s : S} {Q : D → S → Prop} (ha : PyData.strOk a = true) (hb : PyData.strOk b = true) (h : Q (.bl (neg ^^ (a == b))) s) : Wp (optM (eqD neg (.str a) (.str b))) s Q := by
  refine w_opt ?_ h
  show (if SeqAt.shaped (.str a) = true ∧ SeqAt.shaped (.str b) = true then some (D.bl (neg ^^ PyData.eqv (.str a) (.str b))) else none) = _
  rw [if_pos ⟨shaped_str.trans ha, shaped_str.trans hb⟩]
  simp only [PyData.eqv]
theorem v_par3 {i j k : Nat} {ms : M (List D)} {s : S} {Q : Out → Prop} (h : Wp ms s fun ds s1 => ∃ x y z, ds = [x, y, z] ∧ Q (.nx (((s1.set i (some (.d x))).set j (some (.d y))).set k (some (.d z))))) : WS (parM3 i j k ms) s Q := by
  obtain ⟨ds, s1, e, x, y, z, rfl, q⟩ := h
  exact ⟨_, by unfold parM3; rw [e]; rfl, q⟩
end Fli
set_option Elab.async false
set_option linter.all false
set_option maxRecDepth 100000
set_option maxHeartbeats 4000000
namespace Fli
open PySem L2
local macro_rules | `(tactic| array_get_dec) => `(tactic| (repeat (first | with_reducible refine v_seq ?_ | with_reducible refine thenO_nx ?_ | with_reducible refine thenO_rd ?_ | with_reducible refine thenO_ro ?_ | with_reducible refine iteB_t ?_ | with_reducible refine iteB_f ?_ | with_reducible refine v_nx ?_ | with_reducible refine v_ret ?_ | with_reducible refine v_retO ?_ | with_reducible refine v_if ?_ | with_reducible refine v_asg ?_ | with_reducible refine v_asgO ?_ | with_reducible refine v_asgF ?_ | with_reducible refine v_drop ?_ | with_reducible refine v_par ?_ | with_reducible refine v_par3 ?_ | with_reducible refine v_put ?_ | with_reducible refine w_bind ?_ | with_reducible refine w_bin ?_ | with_reducible refine w_binO ?_ | with_reducible refine w_ret ?_ | with_reducible refine w_ifM ?_ | with_reducible refine w_andB ?_ | with_reducible refine w_orB ?_ | with_reducible refine w_andV ?_ | with_reducible refine w_orV ?_ | with_reducible refine w_slM ?_ | with_reducible refine w_chM ?_ | ((with_reducible show ∃ k, truD _ = some k ∧ iteB k _ _); refine ⟨_, rfl, ?_⟩) | ((with_reducible refine w_eqS ?_ ?_ ?_); (first | assumption | decide +kernel); (first | assumption | decide +kernel)) | ((with_reducible refine iteB_tt ?_ ?_); decide +kernel) | ((with_reducible refine iteB_ff ?_ ?_); decide +kernel) | ((with_reducible refine iteB_tt ?_ ?_); assumption) | ((with_reducible refine iteB_ff ?_ ?_); assumption) | ((with_reducible show iteB _ _ _); first | refine iteB_tt rfl ?_ | refine iteB_ff rfl ?_) | ((with_reducible show ∃ k, cmpD _ _ _ = some (D.bl k) ∧ iteB k _ _); refine ⟨_, rfl, ?_⟩) | ((with_reducible refine w_mul ?_ ?_); first | exact Or.inl ⟨of_decide_eq_true rfl, of_decide_eq_true rfl⟩ | exact Or.inr ⟨of_decide_eq_true rfl, of_decide_eq_true rfl⟩) | ((with_reducible refine w_mod ?_ ?_); exact of_decide_eq_true rfl) | ((with_reducible refine w_div ?_ ?_); exact ⟨of_decide_eq_true rfl, of_decide_eq_true rfl⟩) | ((with_reducible refine w_pow ?_ ?_); exact ⟨of_decide_eq_true rfl, of_decide_eq_true rfl, of_decide_eq_true rfl⟩) | ((with_reducible refine w_lstM ?_ ?_); exact of_decide_eq_true rfl) | ((with_reducible refine w_tupM ?_ ?_); exact of_decide_eq_true rfl) | with_reducible refine w_mul ?_ ?_ | with_reducible refine w_div ?_ ?_ | with_reducible refine w_mod ?_ ?_ | with_reducible refine w_pow ?_ ?_ | with_reducible refine w_lstM ?_ ?_ | with_reducible refine w_tupM ?_ ?_ | ((with_reducible show Wp (mVar _) _ _); refine w_var rfl ?_) | ((with_reducible show Wp (ixN _ _) _ _); first | refine w_ixO rfl rfl ?_ | refine w_ixD rfl rfl ?_) | ((with_reducible show Wp (lenN _) _ _); refine w_lenO rfl ?_) | ((with_reducible show Wp (frzN _) _ _); first | refine w_frzO rfl ?_ | refine w_frzD rfl ?_) | ((with_reducible show Wp (optM _) _ _); refine w_opt rfl ?_))))
def Bag (o : O) : Prop := ∃ a b c : Int, o = .lst [.int a, .int b, .int c]
theorem fmod_lt {a b : Int} (h : 0 < b) : 0 ≤ a.fmod b ∧ a.fmod b < b := ⟨Int.fmod_nonneg_of_pos a h, Int.fmod_lt_of_pos a h⟩
theorem draw_ok {o : O} {w : Int} (hb : Bag o) (h0 : 0 < w) (h1 : w < 1000000) : WS m__law_draw (startS 5 [.own o, .d (.int w)]) fun out => ∃ v s2 o', out = .rd (.int v) s2 ∧ firstO s2 = some o' ∧ Bag o' ∧ 0 ≤ v ∧ v < w := by
  obtain ⟨a, b, c, rfl⟩ := hb
  unfold m__law_draw
  array_get_dec
  refine ⟨_, rfl, ?_⟩
  array_get_dec
  refine ⟨_, _, _, rfl, rfl, rfl, ?_⟩
  array_get_dec
  refine iteB_by (fun _ => ?_) (fun _ => ?_)
  · array_get_dec
    · omega
    · array_get_dec
      · exact ⟨by omega, by omega⟩
      · refine ⟨_, rfl, ?_⟩
        array_get_dec
        refine ⟨_, _, _, rfl, rfl, rfl, ?_⟩
        array_get_dec
        exact ⟨_, _, _, rfl, rfl, ⟨_, _, _, rfl⟩, fmod_lt h0⟩
  · array_get_dec
    · have q := fmod_lt (a := b + 61001 * (c + 1)) (b := 58013) (by decide)
      exact .inr ⟨by omega, by omega⟩
    · array_get_dec
      refine ⟨_, rfl, ?_⟩
      array_get_dec
      refine ⟨_, _, _, rfl, rfl, rfl, ?_⟩
      array_get_dec
      · omega
      · exact ⟨_, _, _, rfl, rfl, ⟨_, _, _, rfl⟩, fmod_lt h0⟩
end Fli
set_option Elab.async false
set_option linter.all false
set_option maxRecDepth 100000
set_option maxHeartbeats 4000000
namespace Fli
open PySem L2
local macro_rules | `(tactic| array_get_dec) => `(tactic| (repeat (first | with_reducible refine v_seq ?_ | with_reducible refine thenO_nx ?_ | with_reducible refine thenO_rd ?_ | with_reducible refine thenO_ro ?_ | with_reducible refine iteB_t ?_ | with_reducible refine iteB_f ?_ | with_reducible refine v_nx ?_ | with_reducible refine v_ret ?_ | with_reducible refine v_retO ?_ | with_reducible refine v_if ?_ | with_reducible refine v_asg ?_ | with_reducible refine v_asgO ?_ | with_reducible refine v_asgF ?_ | with_reducible refine v_drop ?_ | with_reducible refine v_par ?_ | with_reducible refine v_par3 ?_ | with_reducible refine v_put ?_ | with_reducible refine w_bind ?_ | with_reducible refine w_bin ?_ | with_reducible refine w_binO ?_ | with_reducible refine w_ret ?_ | with_reducible refine w_ifM ?_ | with_reducible refine w_andB ?_ | with_reducible refine w_orB ?_ | with_reducible refine w_andV ?_ | with_reducible refine w_orV ?_ | with_reducible refine w_slM ?_ | with_reducible refine w_chM ?_ | ((with_reducible show ∃ k, truD _ = some k ∧ iteB k _ _); refine ⟨_, rfl, ?_⟩) | ((with_reducible refine w_eqS ?_ ?_ ?_); (first | assumption | decide +kernel); (first | assumption | decide +kernel)) | ((with_reducible refine iteB_tt ?_ ?_); decide +kernel) | ((with_reducible refine iteB_ff ?_ ?_); decide +kernel) | ((with_reducible refine iteB_tt ?_ ?_); assumption) | ((with_reducible refine iteB_ff ?_ ?_); assumption) | ((with_reducible show iteB _ _ _); first | refine iteB_tt rfl ?_ | refine iteB_ff rfl ?_) | ((with_reducible show ∃ k, cmpD _ _ _ = some (D.bl k) ∧ iteB k _ _); refine ⟨_, rfl, ?_⟩) | ((with_reducible refine w_mul ?_ ?_); first | exact Or.inl ⟨of_decide_eq_true rfl, of_decide_eq_true rfl⟩ | exact Or.inr ⟨of_decide_eq_true rfl, of_decide_eq_true rfl⟩) | ((with_reducible refine w_mod ?_ ?_); exact of_decide_eq_true rfl) | ((with_reducible refine w_div ?_ ?_); exact ⟨of_decide_eq_true rfl, of_decide_eq_true rfl⟩) | ((with_reducible refine w_pow ?_ ?_); exact ⟨of_decide_eq_true rfl, of_decide_eq_true rfl, of_decide_eq_true rfl⟩) | ((with_reducible refine w_lstM ?_ ?_); exact of_decide_eq_true rfl) | ((with_reducible refine w_tupM ?_ ?_); exact of_decide_eq_true rfl) | with_reducible refine w_mul ?_ ?_ | with_reducible refine w_div ?_ ?_ | with_reducible refine w_mod ?_ ?_ | with_reducible refine w_pow ?_ ?_ | with_reducible refine w_lstM ?_ ?_ | with_reducible refine w_tupM ?_ ?_ | ((with_reducible show Wp (mVar _) _ _); refine w_var rfl ?_) | ((with_reducible show Wp (ixN _ _) _ _); first | refine w_ixO rfl rfl ?_ | refine w_ixD rfl rfl ?_) | ((with_reducible show Wp (lenN _) _ _); refine w_lenO rfl ?_) | ((with_reducible show Wp (frzN _) _ _); first | refine w_frzO rfl ?_ | refine w_frzD rfl ?_) | ((with_reducible show Wp (optM _) _ _); refine w_opt rfl ?_))))
theorem w_draw {s : S} {i : Nat} {o : O} {w : Int} {ms : M (List D)} {Q : D → S → Prop} (e0 : slotO i s = some o) (hb : Bag o) (h0 : 0 < w) (h1 : w < 1000000) (hm : Wp ms s fun xs s1 => xs = [.int w] ∧ s1 = s)
    (h : ∀ v o', Bag o' → 0 ≤ v → v < w → Q (.int v) (s.set i (some (.own o')))) : Wp (lendD 5 m__law_draw i ms) s Q := by
  refine w_lendD e0 (hm.mono fun xs s1 ⟨e1, e2⟩ => ?_)
  subst e1
  subst e2
  refine ⟨o, e0, (draw_ok hb h0 h1).mono fun out ⟨v, s2, o', e, e3, b, l1, l2⟩ => ?_⟩
  subst e
  exact ⟨o', e3, h v o' b l1 l2⟩
theorem atI_lt {α : Type} {xs : List α} {i : Int} (h0 : 0 ≤ i) (h1 : i < xs.length) : ∃ a, atI xs i = some a ∧ a ∈ xs := by
  have l : i.toNat < xs.length := by omega
  refine ⟨xs[i.toNat], ?_, List.getElem_mem l⟩
  unfold atI L2.ixN
  rw [if_pos h0, if_pos h1]
  show xs[i.toNat]? = _
  rw [List.getElem?_eq_getElem l]
theorem bag_ok {ns : List Int} {k : Int} (h0 : 0 ≤ k) (h1 : k < 1000) : WS m__law_bag (startS N__law_bag.length [.d (.scr ns), .d (.int k)]) fun out => ∃ o s2, out = .ro o s2 ∧ Bag o := by
  have go : ∀ c : Int, WS (seqM (forL (slM slL (mVar 0) (retM none) (bindM (retM (.int 7)) fun d => optM ((intD d).map some))) (setF 4) (seqM (asgM (mBin modD (bindM (bindM (mBin addL (mBin addL (mBin mulD (mVar 3) (retM (.int 47717))) (mBin modD (bindM (bindM (mVar 4) fun d => bindM (retM []) fun ds => retM (d :: ds)) fun ds => optM (intcD ds)) (retM (.int 1000121)))) (mBin mulD (retM (.int 17)) (mVar 1))) fun d => bindM (retM []) fun ds => retM (d :: ds)) fun ds => optM (intcD ds)) (retM (.int 2147483549))) (setF 3)) nxM))
      (seqM (asgM (ifM (orB (bindM (mBin (cmpD fun i j => decide (i < j)) (mVar 2) (retM (.int 0))) fun d => optM (blD d)) (bindM (mBin (cmpD fun i j => decide (j ≤ i)) (mVar 2) (mBin powD (retM (.int 10)) (retM (.int 15)))) fun d => optM (blD d))) (bindM (bindM (mVar 2) fun d => bindM (retM []) fun ds => retM (d :: ds)) fun ds => optM (absD ds)) (retM (.int 0))) (setF 5))
      (seqM (retOS (bindM (bindM (mVar 5) fun d => bindM (bindM (mBin modD (bindM (bindM (mBin addL (mVar 3) (mBin mulD (retM (.int 97003)) (mBin modD (bindM (bindM (mVar 2) fun d => bindM (retM []) fun ds => retM (d :: ds)) fun ds => optM (intcD ds)) (retM (.int 999931))))) fun d => bindM (retM []) fun ds => retM (d :: ds)) fun ds => optM (intcD ds)) (retM (.int 2147483549))) fun d => bindM (bindM (retM (.int 0)) fun d => bindM (retM []) fun ds => retM (d :: ds)) fun ds => retM (d :: ds)) fun ds => retM (d :: ds)) fun ds => optM (lstM ds)))
      nxM))) [some (.d (.scr ns)), some (.d (.int k)), some (.d (.int c)), some (.d (.int (93997 * (k + 5)))), none, none] fun out => ∃ o s2, out = .ro o s2 ∧ Bag o := by
    intro c
    refine v_seq (v_forL ?_)
    array_get_dec
    refine ⟨_, rfl, ?_⟩
    refine loop_ok (inv := fun ds s => (∀ d ∈ ds, ∃ i, d = .int i) ∧ ∃ seed t, s = [some (.d (.scr ns)), some (.d (.int k)), some (.d (.int c)), some (.d (.int seed)), t, none]) ?_ ?_ _ _ ⟨?_, _, _, rfl⟩
    · rintro d ds s ⟨hd, seed, t, rfl⟩
      obtain ⟨i, rfl⟩ := hd d (by simp)
      refine ⟨_, rfl, ?_⟩
      array_get_dec
      show _ ∧ _
      exact ⟨fun d h => hd d (by simp [h]), _, _, rfl⟩
    · rintro s ⟨_, seed, t, rfl⟩
      array_get_dec
      refine iteB_by (fun _ => ?_) (fun _ => ?_)
      · array_get_dec
        exact ⟨_, _, rfl, ⟨_, _, _, rfl⟩⟩
      · array_get_dec
        refine iteB_by (fun _ => ?_) (fun _ => ?_)
        · array_get_dec
          exact ⟨_, _, rfl, ⟨_, _, _, rfl⟩⟩
        · array_get_dec
          exact ⟨_, _, rfl, ⟨_, _, _, rfl⟩⟩
    · intro d h
      simp only [List.mem_map] at h
      obtain ⟨i, _, rfl⟩ := h
      exact ⟨i, rfl⟩
  unfold m__law_bag
  array_get_dec
  refine iteB_by (fun hk => ?_) (fun _ => ?_)
  · have hk := of_decide_eq_true hk
    obtain ⟨i, e, _⟩ := atI_lt h0 hk
    array_get_dec
    refine w_opt (show ((atI ns k).map D.int) = some (.int i) by rw [e]; rfl) ?_
    array_get_dec
    exact ⟨_, _, rfl, go i⟩
  · array_get_dec
    exact ⟨_, _, rfl, go 0⟩
theorem w_one {s : S} {o : O} {xs : List D} {ms : M (List D)} {Q : D → S → Prop} (e0 : slotO 0 s = some o) (hb : Bag o) (hx : xs ≠ []) (hl : xs.length < 1000000) (hm : Wp ms s fun ys s1 => ys = [.lst xs] ∧ s1 = s)
    (h : ∀ v o', Bag o' → v ∈ xs → Q v (s.set 0 (some (.own o')))) : Wp (lendD 2 m__law_one 0 ms) s Q := by
  refine w_lendD e0 (hm.mono fun ys s1 ⟨e1, e2⟩ => ?_)
  subst e1
  subst e2
  refine ⟨o, e0, ?_⟩
  unfold m__law_one
  array_get_dec
  refine w_draw rfl hb (w := xs.length) (by cases xs with | nil => exact absurd rfl hx | cons _ _ => simp only [List.length_cons]; omega) (by omega) ?_ ?_
  · array_get_dec
    exact ⟨rfl, rfl⟩
  · intro v o' b h1 h2
    obtain ⟨y, e, hy⟩ := atI_lt h1 h2
    refine w_opt e ?_
    exact ⟨_, rfl, h y o' b hy⟩
def pool : List Str := ["a", "b", "c", "ab", "lamp", "on", "switches", "x", "abcdefgh", "aa", "z", "not", "y", "ba"]
theorem mem_erase {α : Type} {xs : List α} {i : Nat} {x y : α} (h : xs[i]? = some y) (nd : xs.Nodup) (hx : x ∈ xs.eraseIdx i) : x ∈ xs ∧ x ≠ y := by
  rw [List.mem_eraseIdx_iff_getElem?] at hx
  obtain ⟨j, ne, e⟩ := hx
  refine ⟨List.mem_of_getElem? e, ?_⟩
  rintro rfl
  obtain ⟨l1, e1⟩ := List.getElem?_eq_some_iff.mp e
  obtain ⟨l2, e2⟩ := List.getElem?_eq_some_iff.mp h
  exact ne ((List.getElem_inj nd).mp (e1.trans e2.symm))
theorem names_ok {o : O} {n : Int} (hb : Bag o) (h0 : 0 ≤ n) (h1 : n ≤ 10) : WS m__law_names (startS 4 [.own o, .d (.int n)]) fun out => ∃ (xs : List Str) (s2 : S) (o' : O), out = .rd (.tup (xs.map D.str)) s2 ∧ firstO s2 = some o' ∧ Bag o' ∧ xs.length = n.toNat ∧ xs.Nodup ∧ ∀ x ∈ xs, x ∈ pool := by
  unfold m__law_names
  array_get_dec
  refine w_cplR ?_
  array_get_dec
  refine ⟨rngD 0 n.toNat, ?_, ?_⟩
  · show (if okR n = true then _ else none) = _
    rw [if_pos (by unfold okR; exact decide_eq_true ⟨by omega, by omega⟩)]
  refine w_comp (inv := fun ds acc s => ∃ (xs ps : List Str) (o : O), acc = xs.map D.str ∧ xs.length + ds.length = n.toNat ∧ xs.Nodup ∧ ps.Nodup ∧ ps.length + xs.length = 14 ∧ (∀ x ∈ xs, x ∈ pool ∧ x ∉ ps) ∧ (∀ x ∈ ps, x ∈ pool) ∧ Bag o ∧ s = [some (.own o), some (.d (.int n)), some (.own (.lst (ps.map D.str))), none]) rfl ?_ ?_ ?_
  · refine ⟨[], pool, o, rfl, by simp [rngD], List.nodup_nil, by decide +kernel, rfl, (fun x h => nomatch h), (fun x h => h), hb, rfl⟩
  · rintro d ds acc s ⟨xs, ps, o, rfl, hl, nd, nd2, hn, hx, hp, hb, rfl⟩
    refine ⟨_, rfl, ?_⟩
    array_get_dec
    simp only [List.length_cons] at hl
    refine w_bind ⟨_, _, rfl, ?_⟩
    refine w_bind (w_draw rfl hb (w := (ps.map D.str).length) (by rw [List.length_map]; omega) (by rw [List.length_map]; omega) ?_ ?_)
    · array_get_dec
      exact ⟨rfl, rfl⟩
    · intro v o' b l0 l1
      rw [List.length_map] at l1
      refine w_bind ⟨_, _, rfl, ?_⟩
      refine w_bind (w_opt rfl ?_)
      have lt : v.toNat < ps.length := by omega
      have si : seqIndex? v (ps.map D.str).length = some v.toNat := by
        unfold seqIndex?
        rw [List.length_map]
        have n0 : ¬ v < 0 := by omega
        simp only [if_neg n0]
        rw [if_pos (by simp; omega)]
      refine w_bind (w_opt (by rw [if_pos ⟨by omega, by omega⟩]; exact si) ?_)
      obtain ⟨y, ey⟩ : ∃ y, ps[v.toNat]? = some y := ⟨_, List.getElem?_eq_getElem lt⟩
      refine w_bind (w_opt (a := .str y) (by rw [List.getElem?_map, ey]; rfl) ?_)
      refine w_bind ⟨(), _, rfl, ?_⟩
      array_get_dec
      have er : (ps.map D.str).eraseIdx v.toNat = (ps.eraseIdx v.toNat).map D.str := by simp only [List.eraseIdx_eq_take_drop_succ, List.map_append, List.map_take, List.map_drop]
      have le : (ps.eraseIdx v.toNat).length = ps.length - 1 := List.length_eraseIdx_of_lt lt
      have hy := List.mem_of_getElem? ey
      refine ⟨by rw [List.length_map]; exact Nat.lt_of_le_of_lt (by omega : xs.length ≤ 10) (by decide), xs ++ [y], ps.eraseIdx v.toNat, o', by simp, by simp; omega, ?_, nd2.sublist (List.eraseIdx_sublist _ _), by rw [le]; simp; omega, ?_, fun x h => hp x (List.mem_of_mem_eraseIdx h), b, ?_⟩
      · rw [List.nodup_append]
        refine ⟨nd, by simp, fun a ha z hz => ?_⟩
        simp only [List.mem_singleton] at hz
        subst hz
        rintro rfl
        exact (hx _ ha).2 hy
      · intro x h
        rcases List.mem_append.mp h with h | h
        · exact ⟨(hx x h).1, fun z => (hx x h).2 (List.mem_of_mem_eraseIdx z)⟩
        · simp only [List.mem_singleton] at h
          subst h
          exact ⟨hp _ hy, fun z => (mem_erase ey nd2 z).2 rfl⟩
      · rw [er]
        rfl
  · rintro acc s2 ⟨xs, ps, o, rfl, hl, nd, nd2, hn, hx, hp, hb, rfl⟩
    array_get_dec
    refine ⟨xs, _, o, rfl, rfl, hb, by simpa using hl, nd, fun x h => (hx x h).1⟩
end Fli
set_option Elab.async false
set_option linter.all false
set_option maxRecDepth 100000
set_option maxHeartbeats 1000000
namespace Fli
open PySem L2
local macro_rules | `(tactic| array_get_dec) => `(tactic| (repeat (first | with_reducible refine v_seq ?_ | with_reducible refine thenO_nx ?_ | with_reducible refine thenO_rd ?_ | with_reducible refine thenO_ro ?_ | with_reducible refine iteB_t ?_ | with_reducible refine iteB_f ?_ | with_reducible refine v_nx ?_ | with_reducible refine v_ret ?_ | with_reducible refine v_retO ?_ | with_reducible refine v_if ?_ | with_reducible refine v_asg ?_ | with_reducible refine v_asgO ?_ | with_reducible refine v_asgF ?_ | with_reducible refine v_drop ?_ | with_reducible refine v_par ?_ | with_reducible refine v_par3 ?_ | with_reducible refine v_put ?_ | with_reducible refine w_bind ?_ | with_reducible refine w_bin ?_ | with_reducible refine w_binO ?_ | with_reducible refine w_ret ?_ | with_reducible refine w_ifM ?_ | with_reducible refine w_andB ?_ | with_reducible refine w_orB ?_ | with_reducible refine w_andV ?_ | with_reducible refine w_orV ?_ | with_reducible refine w_slM ?_ | with_reducible refine w_chM ?_ | ((with_reducible show ∃ k, truD _ = some k ∧ iteB k _ _); refine ⟨_, rfl, ?_⟩) | ((with_reducible refine w_eqS ?_ ?_ ?_); (first | assumption | decide +kernel); (first | assumption | decide +kernel)) | ((with_reducible refine iteB_tt ?_ ?_); decide +kernel) | ((with_reducible refine iteB_ff ?_ ?_); decide +kernel) | ((with_reducible refine iteB_tt ?_ ?_); assumption) | ((with_reducible refine iteB_ff ?_ ?_); assumption) | ((with_reducible show iteB _ _ _); first | refine iteB_tt rfl ?_ | refine iteB_ff rfl ?_) | ((with_reducible show ∃ k, cmpD _ _ _ = some (D.bl k) ∧ iteB k _ _); refine ⟨_, rfl, ?_⟩) | ((with_reducible refine w_mul ?_ ?_); first | exact Or.inl ⟨of_decide_eq_true rfl, of_decide_eq_true rfl⟩ | exact Or.inr ⟨of_decide_eq_true rfl, of_decide_eq_true rfl⟩) | ((with_reducible refine w_mod ?_ ?_); exact of_decide_eq_true rfl) | ((with_reducible refine w_div ?_ ?_); exact ⟨of_decide_eq_true rfl, of_decide_eq_true rfl⟩) | ((with_reducible refine w_pow ?_ ?_); exact ⟨of_decide_eq_true rfl, of_decide_eq_true rfl, of_decide_eq_true rfl⟩) | ((with_reducible refine w_lstM ?_ ?_); exact of_decide_eq_true rfl) | ((with_reducible refine w_tupM ?_ ?_); exact of_decide_eq_true rfl) | with_reducible refine w_mul ?_ ?_ | with_reducible refine w_div ?_ ?_ | with_reducible refine w_mod ?_ ?_ | with_reducible refine w_pow ?_ ?_ | with_reducible refine w_lstM ?_ ?_ | with_reducible refine w_tupM ?_ ?_ | ((with_reducible show Wp (mVar _) _ _); refine w_var rfl ?_) | ((with_reducible show Wp (ixN _ _) _ _); first | refine w_ixO rfl rfl ?_ | refine w_ixD rfl rfl ?_) | ((with_reducible show Wp (lenN _) _ _); refine w_lenO rfl ?_) | ((with_reducible show Wp (frzN _) _ _); first | refine w_frzO rfl ?_ | refine w_frzD rfl ?_) | ((with_reducible show Wp (optM _) _ _); refine w_opt rfl ?_))))
/-! equality of texts and numbers -/
theorem strs_map {xs : List Str} : strsD (xs.map D.str) = some xs := by
  induction xs with
  | nil => rfl
  | cons x xs ih => show (strsD (xs.map D.str)).map (x :: ·) = _; rw [ih]; rfl
theorem tix_ok {xs : List Str} {x : Str} (h : x ∈ xs) : ∃ j : Int, tixD (.tup (xs.map D.str)) (.str x) = some (.int j) ∧ 0 ≤ j ∧ j < xs.length := by
  have e : ∃ j, xs.findIdx? (· == x) = some j ∧ j < xs.length := by
    cases q : xs.findIdx? (· == x) with
    | none =>
      rw [List.findIdx?_eq_none_iff] at q
      have := q x h
      simp at this
    | some j =>
      rw [List.findIdx?_eq_some_iff_getElem] at q
      obtain ⟨l, _⟩ := q
      exact ⟨j, rfl, l⟩
  obtain ⟨j, e1, l⟩ := e
  refine ⟨j, ?_, by omega, by omega⟩
  show (strsD _).bind _ = _
  rw [strs_map]
  show (xs.findIdx? (· == x)).map _ = _
  rw [e1]
  rfl
def SIG : List Str := ["+", "-"]
def LitW : List Str := ["either", "needs", "bars"]
def NamW : List Str := ["same", "unlike"]
theorem sig_ok {g : Str} (h : g ∈ SIG) : PyData.strOk g = true := by
  simp only [SIG, List.mem_cons, List.not_mem_nil, or_false] at h
  rcases h with rfl | rfl <;> decide +kernel
/-- a setting's text -/
def Tex (z : Str) (n : Nat) : Prop := z.length = n ∧ n ≤ 10 ∧ ∀ c ∈ z.cps.toList, (⟨#[c]⟩ : Str) ∈ SIG
theorem at_tex {z : Str} {n : Nat} {i : Int} (t : Tex z n) (h0 : 0 ≤ i) (h1 : i < n) : ∃ c : Str, atD (.str z) (.int i) = some (.str c) ∧ c ∈ SIG := by
  obtain ⟨l, l2, l3⟩ := t
  have ls : z.length ≤ sizeLine := Nat.le_trans (by omega : z.length ≤ 10) (by decide)
  have lz : z.cps.toList.length = n := by rw [← l]; rfl
  obtain ⟨c, e, hc⟩ := atI_lt (xs := z.cps.toList) h0 (by rw [lz]; exact h1)
  refine ⟨⟨#[c]⟩, ?_, l3 c hc⟩
  show (if z.length ≤ sizeLine then (atI z.cps.toList i).map fun c => D.str ⟨#[c]⟩ else none) = _
  rw [if_pos ls, e]
  rfl
theorem w_atTup {ds : List D} {s : S} {i : Int} {d : D} {Q : D → S → Prop} (e : atI ds i = some d) (h : Q d s) : Wp (optM (atD (.tup ds) (.int i))) s Q := w_opt e h
theorem holds_ok {xs : List Str} {x g z : Str} (hx : x ∈ xs) (hg : g ∈ SIG) (t : Tex z xs.length) : WS m__law_holds (startS 3 [.d (.tup (xs.map D.str)), .d (.tup [.str x, .str g]), .d (.str z)]) fun out => ∃ b s2, out = .rd (.bl b) s2 := by
  obtain ⟨j, e, l0, l1⟩ := tix_ok hx
  obtain ⟨c, ec, oc⟩ := at_tex t l0 l1
  have oc := sig_ok oc
  have og := sig_ok hg
  unfold m__law_holds
  array_get_dec
  refine w_opt e ?_
  array_get_dec
  refine w_opt ec ?_
  array_get_dec
  exact ⟨_, _, rfl⟩
def IsLit (xs : List Str) (d : D) : Prop := ∃ x ∈ xs, ∃ g ∈ SIG, d = .tup [.str x, .str g]
def IsRule (xs : List Str) (d : D) : Prop := (∃ l, IsLit xs l ∧ d = .tup [.str "be", l]) ∨ (∃ w ∈ LitW, ∃ x ∈ xs, ∃ y ∈ xs, ∃ g ∈ SIG, ∃ k ∈ SIG, x ≠ y ∧ d = .tup [.str w, .tup [.str x, .str g], .tup [.str y, .str k]]) ∨
  (∃ w ∈ NamW, ∃ x ∈ xs, ∃ y ∈ xs, x ≠ y ∧ d = .tup [.str w, .str x, .str y])
theorem w_holds {s : S} {ms : M (List D)} {Q : D → S → Prop} {xs : List Str} {x g z : Str} (hx : x ∈ xs) (hg : g ∈ SIG) (t : Tex z xs.length) (hm : Wp ms s fun ys s1 => ys = [.tup (xs.map D.str), .tup [.str x, .str g], .str z] ∧ s1 = s) (h : ∀ b, Q (.bl b) s) : Wp (callD 3 m__law_holds ms []) s Q := by
  refine w_callD (hm.mono fun ys s1 ⟨e1, e2⟩ => ?_)
  subst e1
  subst e2
  exact (holds_ok hx hg t).mono fun out ⟨b, s2, e⟩ => by subst e; exact h b
theorem keeps_ok {xs : List Str} {z : Str} {d : D} (r : IsRule xs d) (t : Tex z xs.length) : WS m__law_keeps (startS 5 [.d (.tup (xs.map D.str)), .d d, .d (.str z)]) fun out => ∃ b s2, out = .rd (.bl b) s2 := by
  unfold m__law_keeps
  rcases r with ⟨l, ⟨x, hx, g, hg, rfl⟩, rfl⟩ | ⟨w, hw, x, hx, y, hy, g, hg, k, hk, _, rfl⟩ | ⟨w, hw, x, hx, y, hy, _, rfl⟩
  · array_get_dec
    refine w_holds hx hg t ?_ ?_
    · array_get_dec
      exact ⟨rfl, rfl⟩
    · intro b
      exact ⟨b, _, rfl⟩
  · simp only [LitW, List.mem_cons, List.not_mem_nil, or_false] at hw
    rcases hw with rfl | rfl | rfl
    all_goals
      array_get_dec
      refine w_holds hx hg t ?_ ?_
      · array_get_dec
        exact ⟨rfl, rfl⟩
      intro b
      array_get_dec
      refine w_holds hy hk t ?_ ?_
      · array_get_dec
        exact ⟨rfl, rfl⟩
      intro c
      array_get_dec
      refine ⟨_, _, rfl, ?_⟩
      (cases b <;> cases c <;> (array_get_dec; exact ⟨_, _, rfl⟩))
  · obtain ⟨j, e, l0, l1⟩ := tix_ok hx
    obtain ⟨c, ec, oc⟩ := at_tex t l0 l1
    obtain ⟨j2, e2, l2, l3⟩ := tix_ok hy
    obtain ⟨c2, ec2, oc2⟩ := at_tex t l2 l3
    have oc := sig_ok oc
    have oc2 := sig_ok oc2
    simp only [NamW, List.mem_cons, List.not_mem_nil, or_false] at hw
    rcases hw with rfl | rfl
    all_goals
      array_get_dec
      refine w_opt e ?_
      array_get_dec
      refine w_opt ec ?_
      array_get_dec
      refine w_opt e2 ?_
      array_get_dec
      refine w_opt ec2 ?_
      array_get_dec
      exact ⟨_, _, rfl⟩
theorem at_sig {v : Int} (h0 : 0 ≤ v) (h1 : v < 2) : ∃ g ∈ SIG, atD (.str "+-") (.int v) = some (.str g) := by
  have q : v = 0 ∨ v = 1 := by omega
  rcases q with rfl | rfl
  · exact ⟨"+", by decide +kernel, rfl⟩
  · exact ⟨"-", by decide +kernel, rfl⟩
theorem nm_at {xs : List Str} {i : Int} (h0 : 0 ≤ i) (h1 : i < xs.length) : ∃ a ∈ xs, atI (xs.map D.str) i = some (.str a) ∧ xs[i.toNat]? = some a := by
  have l : i.toNat < xs.length := by omega
  refine ⟨xs[i.toNat], List.getElem_mem l, ?_, List.getElem?_eq_getElem l⟩
  unfold atI L2.ixN
  rw [if_pos h0, List.length_map, if_pos h1]
  show (xs.map D.str)[i.toNat]? = _
  rw [List.getElem?_map, List.getElem?_eq_getElem l]
  rfl
theorem nm_ne {xs : List Str} {i j : Int} {a b : Str} (nd : xs.Nodup) (hi : 0 ≤ i) (hj : 0 ≤ j) (ne : i ≠ j) (h1 : xs[i.toNat]? = some a) (h2 : xs[j.toNat]? = some b) : a ≠ b := by
  rintro rfl
  obtain ⟨l1, e1⟩ := List.getElem?_eq_some_iff.mp h1
  obtain ⟨l2, e2⟩ := List.getElem?_eq_some_iff.mp h2
  have := (List.getElem_inj nd).mp (e1.trans e2.symm)
  omega
theorem w_keeps {s : S} {ms : M (List D)} {Q : D → S → Prop} {xs : List Str} {z : Str} {d : D} (r : IsRule xs d) (t : Tex z xs.length) (hm : Wp ms s fun ys s1 => ys = [.tup (xs.map D.str), d, .str z] ∧ s1 = s) (h : ∀ b, Q (.bl b) s) : Wp (callD 5 m__law_keeps ms []) s Q := by
  refine w_callD (hm.mono fun ys s1 ⟨e1, e2⟩ => ?_)
  subst e1
  subst e2
  exact (keeps_ok r t).mono fun out ⟨b, s2, e⟩ => by subst e; exact h b
def RuleEnd (xs : List Str) (out : Out) : Prop := ∃ d s2 o', out = .rd d s2 ∧ IsRule xs d ∧ firstO s2 = some o' ∧ Bag o'
def rTail : MS := (seqM (ifS (orB (bindM (mBin (eqD false) (mVar 3) (retM (.int 1))) fun d => optM (blD d)) (bindM (callD 5 m__law_keeps (bindM (mVar 1) fun d => bindM (bindM (mVar 6) fun d => bindM (bindM (mVar 2) fun d => bindM (retM []) fun ds => retM (d :: ds)) fun ds => retM (d :: ds)) fun ds => retM (d :: ds)) []) fun d => optM (truD d))) (seqM (retMS (mVar 6)) nxM) nxM) nxM)
def rMid : MS := (seqM (asgM (ifM (bindM (mBin (inD false) (mVar 5) (bindM (bindM (bindM (retM (.str ("same" : Str))) fun d => bindM (bindM (retM (.str ("unlike" : Str))) fun d => bindM (retM []) fun ds => retM (d :: ds)) fun ds => retM (d :: ds)) fun ds => optM (lstM ds)) fun o => retM o.d)) fun d => optM (blD d)) (bindM (bindM (mVar 5) fun d => bindM (bindM (mBin atD (mVar 1) (mVar 7)) fun d => bindM (bindM (mBin atD (mVar 1) (mVar 8)) fun d => bindM (retM []) fun ds => retM (d :: ds)) fun ds => retM (d :: ds)) fun ds => retM (d :: ds)) fun ds => optM (tupM ds)) (bindM (bindM (mVar 5) fun d => bindM (bindM (mVar 9) fun d => bindM (bindM (mVar 10) fun d => bindM (retM []) fun ds => retM (d :: ds)) fun ds => retM (d :: ds)) fun ds => retM (d :: ds)) fun ds => optM (tupM ds))) (setF 6))
  (seqM (asgM (ifM (orB (bindM (mBin (eqD false) (mVar 5) (retM (.str ("be" : Str)))) fun d => optM (blD d)) (bindM (mBin (eqD false) (mVar 7) (mVar 8)) fun d => optM (blD d))) (bindM (bindM (retM (.str ("be" : Str))) fun d => bindM (bindM (mVar 9) fun d => bindM (retM []) fun ds => retM (d :: ds)) fun ds => retM (d :: ds)) fun ds => optM (tupM ds)) (mVar 6)) (setF 6))
  rTail))
/-- the state behind the draws -/
abbrev rSt (o : O) (xs : List Str) (z : Str) (off : Int) (t4 t5 t6 : Option A) (i j : Int) (x y g k : Str) : S := [some (.own o), some (.d (.tup (xs.map D.str))), some (.d (.str z)), some (.d (.int off)), t4, t5, t6, some (.d (.int i)), some (.d (.int j)), some (.d (.tup [.str x, .str g])), some (.d (.tup [.str y, .str k]))]
theorem rTail_ok {o : O} {xs : List Str} {z : Str} {off : Int} {t4 t5 : Option A} {r : D} {i j : Int} {x y g k : Str} {P : Out → Prop} (ir : IsRule xs r) (t : Tex z xs.length) (p1 : P (.nx (rSt o xs z off t4 t5 (some (.d r)) i j x y g k))) (p2 : P (.rd r (rSt o xs z off t4 t5 (some (.d r)) i j x y g k))) :
    WS rTail (rSt o xs z off t4 t5 (some (.d r)) i j x y g k) P := by
  unfold rTail
  array_get_dec
  refine iteB_by (fun _ => ?_) (fun _ => ?_)
  · array_get_dec
    exact p2
  · array_get_dec
    refine w_keeps ir t ?_ ?_
    · array_get_dec
      exact ⟨rfl, rfl⟩
    intro b
    cases b with
    | true => array_get_dec; exact p2
    | false => array_get_dec; exact p1
theorem rMid_ok {o : O} {xs : List Str} {z : Str} {off : Int} {t4 t6 : Option A} {w : D} {i j : Int} {x y g k : Str} {P : Out → Prop} (hw : w ∈ [D.str "either", .str "needs", .str "needs", .str "bars", .str "same", .str "unlike", .str "be"]) (nd : xs.Nodup) (mg : g ∈ SIG) (mk : k ∈ SIG)
    (i0 : 0 ≤ i) (i1 : i < xs.length) (j0 : 0 ≤ j) (j1 : j < xs.length) (mx : x ∈ xs) (my : y ∈ xs) (ex : atI (xs.map D.str) i = some (.str x)) (ey : atI (xs.map D.str) j = some (.str y)) (ex2 : xs[i.toNat]? = some x) (ey2 : xs[j.toNat]? = some y)
    (go : ∀ (r : D) (t5 : Option A), IsRule xs r → WS rTail (rSt o xs z off t4 t5 (some (.d r)) i j x y g k) P) : WS rMid (rSt o xs z off t4 (some (.d w)) t6 i j x y g k) P := by
  have ibe : IsRule xs (.tup [.str "be", .tup [.str x, .str g]]) := .inl ⟨_, ⟨x, mx, g, mg, rfl⟩, rfl⟩
  have irl : i ≠ j → ∀ w ∈ LitW, IsRule xs (.tup [.str w, .tup [.str x, .str g], .tup [.str y, .str k]]) := fun ne w hw => .inr (.inl ⟨w, hw, x, mx, y, my, g, mg, k, mk, nm_ne nd i0 j0 ne ex2 ey2, rfl⟩)
  have irn : i ≠ j → ∀ w ∈ NamW, IsRule xs (.tup [.str w, .str x, .str y]) := fun ne w hw => .inr (.inr ⟨w, hw, x, mx, y, my, nm_ne nd i0 j0 ne ex2 ey2, rfl⟩)
  have l1 : ("either" : Str) ∈ LitW := by decide +kernel
  have l2 : ("needs" : Str) ∈ LitW := by decide +kernel
  have l3 : ("bars" : Str) ∈ LitW := by decide +kernel
  have l4 : ("same" : Str) ∈ NamW := by decide +kernel
  have l5 : ("unlike" : Str) ∈ NamW := by decide +kernel
  unfold rMid
  simp only [List.mem_cons, List.not_mem_nil, or_false] at hw
  rcases hw with rfl | rfl | rfl | rfl | rfl | rfl | rfl
  iterate 4
    array_get_dec
    refine iteB_by (fun hij => ?_) (fun hij => ?_)
    · array_get_dec
      exact go _ _ ibe
    · have ne : i ≠ j := by rintro rfl; simp [PyData.eqv] at hij
      array_get_dec
      first | exact go _ _ (irl ne _ l1) | exact go _ _ (irl ne _ l2) | exact go _ _ (irl ne _ l3)
  iterate 2
    array_get_dec
    refine w_opt ex ?_
    array_get_dec
    refine w_opt ey ?_
    array_get_dec
    refine iteB_by (fun hij => ?_) (fun hij => ?_)
    · array_get_dec
      exact go _ _ ibe
    · have ne : i ≠ j := by rintro rfl; simp [PyData.eqv] at hij
      array_get_dec
      first | exact go _ _ (irn ne _ l4) | exact go _ _ (irn ne _ l5)
  array_get_dec
  exact go _ _ ibe
def rBody : MS := (seqM (parM 7 8 (bindM (lendD 5 m__law_draw 0 (bindM (bindM (bindM (mVar 1) fun d => bindM (retM []) fun ds => retM (d :: ds)) fun ds => optM (lenD ds)) fun d => bindM (retM []) fun ds => retM (d :: ds))) fun d => bindM (bindM (lendD 5 m__law_draw 0 (bindM (bindM (bindM (mVar 1) fun d => bindM (retM []) fun ds => retM (d :: ds)) fun ds => optM (lenD ds)) fun d => bindM (retM []) fun ds => retM (d :: ds))) fun d => bindM (retM []) fun ds => retM (d :: ds)) fun ds => retM (d :: ds)))
      (seqM (parM 9 10 (bindM (bindM (bindM (mBin atD (mVar 1) (mVar 7)) fun d => bindM (bindM (mBin atD (retM (.str ("+-" : Str))) (lendD 5 m__law_draw 0 (bindM (retM (.int 2)) fun d => bindM (retM []) fun ds => retM (d :: ds)))) fun d => bindM (retM []) fun ds => retM (d :: ds)) fun ds => retM (d :: ds)) fun ds => optM (tupM ds)) fun d => bindM (bindM (bindM (bindM (mBin atD (mVar 1) (mVar 8)) fun d => bindM (bindM (mBin atD (retM (.str ("+-" : Str))) (lendD 5 m__law_draw 0 (bindM (retM (.int 2)) fun d => bindM (retM []) fun ds => retM (d :: ds)))) fun d => bindM (retM []) fun ds => retM (d :: ds)) fun ds => retM (d :: ds)) fun ds => optM (tupM ds)) fun d => bindM (retM []) fun ds => retM (d :: ds)) fun ds => retM (d :: ds)))
      (seqM (asgM (lendD 2 m__law_one 0 (bindM (bindM (bindM (bindM (retM (.str ("either" : Str))) fun d => bindM (bindM (retM (.str ("needs" : Str))) fun d => bindM (bindM (retM (.str ("needs" : Str))) fun d => bindM (bindM (retM (.str ("bars" : Str))) fun d => bindM (bindM (retM (.str ("same" : Str))) fun d => bindM (bindM (retM (.str ("unlike" : Str))) fun d => bindM (bindM (retM (.str ("be" : Str))) fun d => bindM (retM []) fun ds => retM (d :: ds)) fun ds => retM (d :: ds)) fun ds => retM (d :: ds)) fun ds => retM (d :: ds)) fun ds => retM (d :: ds)) fun ds => retM (d :: ds)) fun ds => retM (d :: ds)) fun ds => optM (lstM ds)) fun o => retM o.d) fun d => bindM (retM []) fun ds => retM (d :: ds))) (setF 5)) rMid)))
theorem rBody_ok {o : O} {xs : List Str} {z : Str} {off : Int} {t4 t5 t6 t7 t8 t9 t10 : Option A} {P : Out → Prop} (hb : Bag o) (nd : xs.Nodup) (lx : 0 < xs.length) (t : Tex z xs.length)
    (p1 : ∀ (o : O) (t5 t6 : Option A) (i j : Int) (x y g k : Str), Bag o → P (.nx (rSt o xs z off t4 t5 t6 i j x y g k))) (p2 : ∀ (o : O) (r : D) (t5 t6 : Option A) (i j : Int) (x y g k : Str), Bag o → IsRule xs r → P (.rd r (rSt o xs z off t4 t5 t6 i j x y g k))) :
    WS rBody [some (.own o), some (.d (.tup (xs.map D.str))), some (.d (.str z)), some (.d (.int off)), t4, t5, t6, t7, t8, t9, t10] P := by
  have lt : xs.length ≤ 10 := t.2.1
  have lm : ((xs.map D.str).length : Int) = xs.length := by rw [List.length_map]
  unfold rBody
  array_get_dec
  refine w_draw rfl hb (w := (xs.map D.str).length) (by omega) (by omega) ?_ ?_
  · array_get_dec
    exact ⟨rfl, rfl⟩
  intro i o1 b1 i0 i1
  array_get_dec
  refine w_draw rfl b1 (w := (xs.map D.str).length) (by omega) (by omega) ?_ ?_
  · array_get_dec
    exact ⟨rfl, rfl⟩
  intro j o2 b2 j0 j1
  rw [lm] at i1 j1
  obtain ⟨x, mx, ex, ex2⟩ := nm_at i0 i1
  obtain ⟨y, my, ey, ey2⟩ := nm_at j0 j1
  array_get_dec
  refine ⟨_, _, rfl, ?_⟩
  array_get_dec
  refine w_opt ex ?_
  array_get_dec
  refine w_draw rfl b2 (w := 2) (by decide) (by decide) ?_ ?_
  · array_get_dec
    exact ⟨rfl, rfl⟩
  intro v o3 b3 v0 v1
  obtain ⟨g, mg, eg⟩ := at_sig v0 v1
  refine w_opt eg ?_
  array_get_dec
  refine w_opt ey ?_
  array_get_dec
  refine w_draw rfl b3 (w := 2) (by decide) (by decide) ?_ ?_
  · array_get_dec
    exact ⟨rfl, rfl⟩
  intro v2 o4 b4 u0 u1
  obtain ⟨g2, mg2, eg2⟩ := at_sig u0 u1
  refine w_opt eg2 ?_
  array_get_dec
  refine ⟨_, _, rfl, ?_⟩
  array_get_dec
  refine w_one (xs := [.str "either", .str "needs", .str "needs", .str "bars", .str "same", .str "unlike", .str "be"]) rfl b4 (by simp) (by decide) ?_ ?_
  · array_get_dec
    exact ⟨rfl, rfl⟩
  intro w o5 b5 hw
  refine thenO_nx ?_
  show WS rMid (rSt o5 xs z off t4 (some (.d w)) t6 i j x y g g2) P
  exact rMid_ok hw nd mg mg2 i0 i1 j0 j1 mx my ex ey ex2 ey2 fun r t5 ir => rTail_ok ir t (p1 _ _ _ _ _ _ _ _ _ b5) (p2 _ _ _ _ _ _ _ _ _ _ b5 ir)
theorem rule_ok {o : O} {xs : List Str} {z : Str} {off : Int} (hb : Bag o) (lx : 0 < xs.length) (nd : xs.Nodup) (t : Tex z xs.length) : WS m__law_rule (startS 11 [.own o, .d (.tup (xs.map D.str)), .d (.str z), .d (.int off)]) (RuleEnd xs) := by
  unfold m__law_rule
  refine v_seq (v_forR ?_)
  array_get_dec
  refine ⟨_, rfl, ?_⟩
  refine loop_ok (inv := fun ds s => ∃ (o : O) (t4 t5 t6 t7 t8 t9 t10 : Option A), Bag o ∧ s = [some (.own o), some (.d (.tup (xs.map D.str))), some (.d (.str z)), some (.d (.int off)), t4, t5, t6, t7, t8, t9, t10]) ?_ ?_ _ _ ⟨o, none, none, none, none, none, none, none, hb, rfl⟩
  · rintro d ds s ⟨o, t4, t5, t6, t7, t8, t9, t10, hb, rfl⟩
    refine ⟨[some (.own o), some (.d (.tup (xs.map D.str))), some (.d (.str z)), some (.d (.int off)), some (.d d), t5, t6, t7, t8, t9, t10], rfl, ?_⟩
    show WS rBody _ _
    refine rBody_ok hb nd lx t ?_ ?_
    · intro o t5 t6 i j x y g k b
      exact ⟨o, _, _, _, _, _, _, _, b, rfl⟩
    · intro o r t5 t6 i j x y g k b ir
      exact ⟨r, _, o, rfl, ir, rfl, b⟩
  · rintro s ⟨o, t4, t5, t6, t7, t8, t9, t10, hb, rfl⟩
    obtain ⟨x, mx, ex, ex2⟩ := nm_at (xs := xs) (i := 0) (by decide) (by omega)
    obtain ⟨c, ec, oc⟩ := at_tex t (i := 0) (by decide) (by omega)
    array_get_dec
    refine w_opt ex ?_
    array_get_dec
    refine w_opt ec ?_
    array_get_dec
    exact ⟨_, _, _, rfl, .inl ⟨_, ⟨x, mx, c, oc, rfl⟩, rfl⟩, rfl, hb⟩
end Fli
set_option Elab.async false
set_option linter.all false
set_option maxRecDepth 100000
set_option maxHeartbeats 1000000
namespace Fli
open PySem L2
local macro_rules | `(tactic| array_get_dec) => `(tactic| (repeat (first | with_reducible refine v_seq ?_ | with_reducible refine thenO_nx ?_ | with_reducible refine thenO_rd ?_ | with_reducible refine thenO_ro ?_ | with_reducible refine iteB_t ?_ | with_reducible refine iteB_f ?_ | with_reducible refine v_nx ?_ | with_reducible refine v_ret ?_ | with_reducible refine v_retO ?_ | with_reducible refine v_if ?_ | with_reducible refine v_asg ?_ | with_reducible refine v_asgO ?_ | with_reducible refine v_asgF ?_ | with_reducible refine v_drop ?_ | with_reducible refine v_par ?_ | with_reducible refine v_par3 ?_ | with_reducible refine v_put ?_ | with_reducible refine w_bind ?_ | with_reducible refine w_bin ?_ | with_reducible refine w_binO ?_ | with_reducible refine w_ret ?_ | with_reducible refine w_ifM ?_ | with_reducible refine w_andB ?_ | with_reducible refine w_orB ?_ | with_reducible refine w_andV ?_ | with_reducible refine w_orV ?_ | with_reducible refine w_slM ?_ | with_reducible refine w_chM ?_ | ((with_reducible show ∃ k, truD _ = some k ∧ iteB k _ _); refine ⟨_, rfl, ?_⟩) | ((with_reducible refine w_eqS ?_ ?_ ?_); (first | assumption | decide +kernel); (first | assumption | decide +kernel)) | ((with_reducible refine iteB_tt ?_ ?_); decide +kernel) | ((with_reducible refine iteB_ff ?_ ?_); decide +kernel) | ((with_reducible refine iteB_tt ?_ ?_); assumption) | ((with_reducible refine iteB_ff ?_ ?_); assumption) | ((with_reducible show iteB _ _ _); first | refine iteB_tt rfl ?_ | refine iteB_ff rfl ?_) | ((with_reducible show ∃ k, cmpD _ _ _ = some (D.bl k) ∧ iteB k _ _); refine ⟨_, rfl, ?_⟩) | ((with_reducible refine w_mul ?_ ?_); first | exact Or.inl ⟨of_decide_eq_true rfl, of_decide_eq_true rfl⟩ | exact Or.inr ⟨of_decide_eq_true rfl, of_decide_eq_true rfl⟩) | ((with_reducible refine w_mod ?_ ?_); exact of_decide_eq_true rfl) | ((with_reducible refine w_div ?_ ?_); exact ⟨of_decide_eq_true rfl, of_decide_eq_true rfl⟩) | ((with_reducible refine w_pow ?_ ?_); exact ⟨of_decide_eq_true rfl, of_decide_eq_true rfl, of_decide_eq_true rfl⟩) | ((with_reducible refine w_lstM ?_ ?_); exact of_decide_eq_true rfl) | ((with_reducible refine w_tupM ?_ ?_); exact of_decide_eq_true rfl) | with_reducible refine w_mul ?_ ?_ | with_reducible refine w_div ?_ ?_ | with_reducible refine w_mod ?_ ?_ | with_reducible refine w_pow ?_ ?_ | with_reducible refine w_lstM ?_ ?_ | with_reducible refine w_tupM ?_ ?_ | ((with_reducible show Wp (mVar _) _ _); refine w_var rfl ?_) | ((with_reducible show Wp (ixN _ _) _ _); first | refine w_ixO rfl rfl ?_ | refine w_ixD rfl rfl ?_) | ((with_reducible show Wp (lenN _) _ _); refine w_lenO rfl ?_) | ((with_reducible show Wp (frzN _) _ _); first | refine w_frzO rfl ?_ | refine w_frzD rfl ?_) | ((with_reducible show Wp (optM _) _ _); refine w_opt rfl ?_))))
theorem sig_len {g : Str} (h : g ∈ SIG) : g.cps.toList.length = 1 ∧ ∀ c ∈ g.cps.toList, (⟨#[c]⟩ : Str) ∈ SIG := by
  simp only [SIG, List.mem_cons, List.not_mem_nil, or_false] at h
  rcases h with rfl | rfl
  · exact ⟨by decide +kernel, fun c hc => by
      have e : ("+" : Str).cps.toList = [43] := by decide +kernel
      rw [e] at hc
      simp only [List.mem_singleton] at hc
      subst hc
      decide +kernel⟩
  · exact ⟨by decide +kernel, fun c hc => by
      have e : ("-" : Str).cps.toList = [45] := by decide +kernel
      rw [e] at hc
      simp only [List.mem_singleton] at hc
      subst hc
      decide +kernel⟩
theorem joinL_sig : ∀ {ls : List (List Nat)}, (∀ l ∈ ls, l.length = 1 ∧ ∀ c ∈ l, (⟨#[c]⟩ : Str) ∈ SIG) → (TL.joinL [] ls).length = ls.length ∧ ∀ c ∈ TL.joinL [] ls, (⟨#[c]⟩ : Str) ∈ SIG
  | [], _ => ⟨rfl, fun c h => nomatch h⟩
  | [p], h => h p (by simp)
  | p :: q :: r, h => by
    obtain ⟨h1, h2⟩ := h p (by simp)
    obtain ⟨h3, h4⟩ := joinL_sig (ls := q :: r) fun l hl => h l (List.mem_cons_of_mem _ hl)
    show (p ++ ([] ++ TL.joinL [] (q :: r))).length = _ ∧ ∀ c ∈ p ++ ([] ++ TL.joinL [] (q :: r)), _
    refine ⟨by rw [List.length_append, List.nil_append, h1, h3]; simp only [List.length_cons]; omega, fun c hc => ?_⟩
    rw [List.nil_append] at hc
    rcases List.mem_append.mp hc with hc | hc
    · exact h2 c hc
    · exact h4 c hc
theorem tex_join {ys : List Str} (h : ∀ y ∈ ys, y ∈ SIG) (l : ys.length ≤ 10) : Tex (Txt.join "" ys) ys.length := by
  have e1 : (Txt.join "" ys).cps.toList = TL.joinL [] (ys.map fun y => y.cps.toList) := (congrArg TL.tl (TL.join_eq "" ys)).trans (TL.tl_join "" ys)
  obtain ⟨h1, h2⟩ := joinL_sig (ls := ys.map fun y => y.cps.toList) fun l hl => by
    obtain ⟨y, hy, rfl⟩ := List.mem_map.mp hl
    exact sig_len (h y hy)
  rw [List.length_map] at h1
  refine ⟨by show (Txt.join "" ys).cps.toList.length = _; rw [e1]; exact h1, l, fun c hc => h2 c ?_⟩
  rw [e1] at hc
  exact hc
theorem sum_sig : ∀ {ys : List Str}, (∀ y ∈ ys, y ∈ SIG) → (ys.map (·.length)).sum = ys.length
  | [], _ => rfl
  | y :: ys, h => by
    rw [List.map_cons, List.sum_cons, sum_sig fun z hz => h z (List.mem_cons_of_mem _ hz), List.length_cons]
    have : y.length = 1 := (sig_len (h y (by simp))).1
    omega
theorem w_rule {s : S} {o : O} {xs : List Str} {z : Str} {off : Int} {ms : M (List D)} {Q : D → S → Prop} (e0 : slotO 0 s = some o) (hb : Bag o) (lx : 0 < xs.length) (nd : xs.Nodup) (t : Tex z xs.length) (hm : Wp ms s fun ys s1 => ys = [.tup (xs.map D.str), .str z, .int off] ∧ s1 = s)
    (h : ∀ d o', Bag o' → IsRule xs d → Q d (s.set 0 (some (.own o')))) : Wp (lendD 11 m__law_rule 0 ms) s Q := by
  refine w_lendD e0 (hm.mono fun ys s1 ⟨e1, e2⟩ => ?_)
  subst e1
  subst e2
  refine ⟨o, e0, (rule_ok hb lx nd t).mono fun out ⟨d, s2, o', e, ir, e3, b⟩ => ?_⟩
  subst e
  exact ⟨o', e3, h d o' b ir⟩
def Parts (w m : Nat) (o : O) : Prop := ∃ (xs : List Str) (ds : List D) (z : Str), o = .lst [.tup (xs.map D.str), .tup ds, .str z] ∧ 0 < xs.length ∧ xs.length ≤ w ∧ xs.Nodup ∧ (∀ x ∈ xs, x ∈ pool) ∧ ds.length ≤ m + 1 ∧ (∀ d ∈ ds, IsRule xs d) ∧ Tex z xs.length
theorem panel_ok {o : O} {w m : Nat} (hw0 : 0 < w) (hw : w ≤ 10) (hm : m ≤ 200) (hb : Bag o) : WS m__law_panel (startS 8 [.own o, .d (.int w), .d (.int m)]) fun out => ∃ q s2 o', out = .ro q s2 ∧ Parts w m q ∧ firstO s2 = some o' ∧ Bag o' := by
  unfold m__law_panel
  array_get_dec
  refine w_lendD (n := 4) rfl ?_
  array_get_dec
  refine w_draw rfl hb (w := (w : Int)) (by omega) (by omega) ?_ ?_
  · array_get_dec
    exact ⟨rfl, rfl⟩
  intro v o1 b1 v0 v1
  array_get_dec
  refine ⟨o1, rfl, (names_ok (n := 1 + v) b1 (by omega) (by omega)).mono ?_⟩
  rintro out ⟨xs, s2, o2, rfl, e2, b2, lx, nd, hp⟩
  refine ⟨o2, e2, ?_⟩
  array_get_dec
  refine w_cplL ?_
  array_get_dec
  refine ⟨xs.map D.str, rfl, ?_⟩
  refine w_comp (inv := fun ds acc s => ∃ (ys : List Str) (o : O), acc = ys.map D.str ∧ ys.length + ds.length = xs.length ∧ (∀ y ∈ ys, y ∈ SIG) ∧ Bag o ∧ s = [some (.own o), some (.d (.int w)), some (.d (.int m)), some (.d (.tup (xs.map D.str))), none, none, none, none]) rfl ⟨[], o2, rfl, by simp, by simp, b2, rfl⟩ ?_ ?_
  · rintro d ds acc s ⟨ys, o, rfl, hl, hy, hb, rfl⟩
    refine ⟨_, rfl, ?_⟩
    array_get_dec
    refine w_draw rfl hb (w := 2) (by decide) (by decide) ?_ ?_
    · array_get_dec
      exact ⟨rfl, rfl⟩
    intro v o' b' v0 v1
    obtain ⟨g, mg, eg⟩ := at_sig v0 v1
    refine w_opt eg ?_
    simp only [List.length_cons] at hl
    refine ⟨by rw [List.length_map]; exact Nat.lt_of_le_of_lt (by omega : ys.length ≤ 10) (by decide), ys ++ [g], o', by simp, by simp; omega, ?_, b', rfl⟩
    intro y h
    rcases List.mem_append.mp h with h | h
    · exact hy y h
    · simp only [List.mem_singleton] at h
      subst h
      exact mg
  rintro acc s2 ⟨ys, o3, rfl, hl, hy, b3, rfl⟩
  simp only [List.length_nil, Nat.add_zero] at hl
  have t : Tex (Txt.join "" ys) xs.length := by
    rw [← hl]
    exact tex_join hy (by omega)
  array_get_dec
  refine w_opt (a := .str (Txt.join "" ys)) ?_ ?_
  · show (strsD (ys.map D.str)).bind _ = _
    rw [strs_map]
    show (if _ then _ else _) = _
    rw [if_pos (by rw [sum_sig hy]; have e0 : ("" : Str).length = 0 := rfl; rw [e0]; omega)]
  array_get_dec
  refine w_cplR ?_
  array_get_dec
  refine w_draw rfl b3 (w := (m : Int) + 1) (by omega) (by omega) ?_ ?_
  · array_get_dec
    exact ⟨rfl, rfl⟩
  intro mm o4 b4 m0 m1
  array_get_dec
  refine ⟨rngD 0 mm.toNat, ?_, ?_⟩
  · show (if okR mm = true then _ else none) = _
    rw [if_pos (by unfold okR; exact decide_eq_true ⟨by omega, by omega⟩)]
  refine w_comp (inv := fun ds acc s => ∃ (o : O), acc.length + ds.length = mm.toNat ∧ (∀ d ∈ acc, IsRule xs d) ∧ Bag o ∧ s = [some (.own o), some (.d (.int w)), some (.d (.int m)), some (.d (.tup (xs.map D.str))), some (.d (.str (Txt.join "" ys))), none, none, none]) rfl ⟨o4, by simp [rngD], by simp, b4, rfl⟩ ?_ ?_
  · rintro d ds acc s ⟨o, hl, hr, hb, rfl⟩
    simp only [List.length_cons] at hl
    refine ⟨_, rfl, ?_⟩
    array_get_dec
    refine w_rule rfl hb (by omega) nd t (off := 0) ?_ ?_
    · array_get_dec
      exact ⟨rfl, rfl⟩
    intro r o' b' ir
    refine ⟨Nat.lt_of_le_of_lt (by omega : acc.length ≤ 300) (by decide), o', by simp; omega, ?_, b', rfl⟩
    intro y h
    rcases List.mem_append.mp h with h | h
    · exact hr y h
    · simp only [List.mem_singleton] at h
      subst h
      exact ir
  rintro ds s3 ⟨o5, hl, hr, b5, rfl⟩
  simp only [List.length_nil, Nat.add_zero] at hl
  array_get_dec
  refine w_draw rfl b5 (w := 8) (by decide) (by decide) ?_ ?_
  · array_get_dec
    exact ⟨rfl, rfl⟩
  intro u o6 b6 _ _
  array_get_dec
  refine iteB_by (fun _ => ?_) (fun _ => ?_)
  · refine v_seq (v_app (ds := ds) ?_ rfl)
    refine w_rule rfl b6 (by omega) nd t (off := 1) ?_ ?_
    · array_get_dec
      exact ⟨rfl, rfl⟩
    intro r o7 b7 ir
    refine ⟨ds, rfl, Nat.lt_of_le_of_lt (by omega : ds.length ≤ 300) (by decide), ?_⟩
    array_get_dec
    refine ⟨_, _, _, rfl, ⟨xs, ds ++ [r], _, rfl, by omega, by omega, nd, hp, by simp; omega, ?_, t⟩, rfl, b7⟩
    intro y h
    rcases List.mem_append.mp h with h | h
    · exact hr y h
    · simp only [List.mem_singleton] at h
      subst h
      exact ir
  · array_get_dec
    exact ⟨_, _, _, rfl, ⟨xs, ds, _, rfl, by omega, by omega, nd, hp, by omega, hr, t⟩, rfl, b6⟩
end Fli
set_option Elab.async false
set_option linter.all false
set_option maxRecDepth 100000
set_option maxHeartbeats 1000000
namespace Fli
open PySem L2
local macro_rules | `(tactic| array_get_dec) => `(tactic| (repeat (first | with_reducible refine v_seq ?_ | with_reducible refine thenO_nx ?_ | with_reducible refine thenO_rd ?_ | with_reducible refine thenO_ro ?_ | with_reducible refine iteB_t ?_ | with_reducible refine iteB_f ?_ | with_reducible refine v_nx ?_ | with_reducible refine v_ret ?_ | with_reducible refine v_retO ?_ | with_reducible refine v_if ?_ | with_reducible refine v_asg ?_ | with_reducible refine v_asgO ?_ | with_reducible refine v_asgF ?_ | with_reducible refine v_drop ?_ | with_reducible refine v_par ?_ | with_reducible refine v_par3 ?_ | with_reducible refine v_put ?_ | with_reducible refine w_bind ?_ | with_reducible refine w_bin ?_ | with_reducible refine w_binO ?_ | with_reducible refine w_ret ?_ | with_reducible refine w_ifM ?_ | with_reducible refine w_andB ?_ | with_reducible refine w_orB ?_ | with_reducible refine w_andV ?_ | with_reducible refine w_orV ?_ | with_reducible refine w_slM ?_ | with_reducible refine w_chM ?_ | ((with_reducible show ∃ k, truD _ = some k ∧ iteB k _ _); refine ⟨_, rfl, ?_⟩) | ((with_reducible refine w_eqS ?_ ?_ ?_); (first | assumption | decide +kernel); (first | assumption | decide +kernel)) | ((with_reducible refine iteB_tt ?_ ?_); decide +kernel) | ((with_reducible refine iteB_ff ?_ ?_); decide +kernel) | ((with_reducible refine iteB_tt ?_ ?_); assumption) | ((with_reducible refine iteB_ff ?_ ?_); assumption) | ((with_reducible show iteB _ _ _); first | refine iteB_tt rfl ?_ | refine iteB_ff rfl ?_) | ((with_reducible show ∃ k, cmpD _ _ _ = some (D.bl k) ∧ iteB k _ _); refine ⟨_, rfl, ?_⟩) | ((with_reducible refine w_mul ?_ ?_); first | exact Or.inl ⟨of_decide_eq_true rfl, of_decide_eq_true rfl⟩ | exact Or.inr ⟨of_decide_eq_true rfl, of_decide_eq_true rfl⟩) | ((with_reducible refine w_mod ?_ ?_); exact of_decide_eq_true rfl) | ((with_reducible refine w_div ?_ ?_); exact ⟨of_decide_eq_true rfl, of_decide_eq_true rfl⟩) | ((with_reducible refine w_pow ?_ ?_); exact ⟨of_decide_eq_true rfl, of_decide_eq_true rfl, of_decide_eq_true rfl⟩) | ((with_reducible refine w_lstM ?_ ?_); exact of_decide_eq_true rfl) | ((with_reducible refine w_tupM ?_ ?_); exact of_decide_eq_true rfl) | with_reducible refine w_mul ?_ ?_ | with_reducible refine w_div ?_ ?_ | with_reducible refine w_mod ?_ ?_ | with_reducible refine w_pow ?_ ?_ | with_reducible refine w_lstM ?_ ?_ | with_reducible refine w_tupM ?_ ?_ | ((with_reducible show Wp (mVar _) _ _); refine w_var rfl ?_) | ((with_reducible show Wp (ixN _ _) _ _); first | refine w_ixO rfl rfl ?_ | refine w_ixD rfl rfl ?_) | ((with_reducible show Wp (lenN _) _ _); refine w_lenO rfl ?_) | ((with_reducible show Wp (frzN _) _ _); first | refine w_frzO rfl ?_ | refine w_frzD rfl ?_) | ((with_reducible show Wp (optM _) _ _); refine w_opt rfl ?_))))
def letters : Str := "abcdefghijklmnopqrstuvwxyz"
def words : List V := [.str "be", .str "either", .str "needs", .str "bars", .str "same", .str "unlike"]
structure Nm (x : Str) : Prop where
  w : inV (.str x) words = false
  lo : 1 ≤ x.length
  hi : x.length ≤ 8
  ls : ∀ c ∈ x.cps.toList, c ∈ letters.cps.toList
  ok : PyData.strOk x = true
instance (x : Str) : Decidable (Nm x) := decidable_of_iff (inV (.str x) words = false ∧ 1 ≤ x.length ∧ x.length ≤ 8 ∧ (∀ c ∈ x.cps.toList, c ∈ letters.cps.toList) ∧ PyData.strOk x = true) ⟨fun ⟨a, b, c, d, e⟩ => ⟨a, b, c, d, e⟩, fun ⟨a, b, c, d, e⟩ => ⟨a, b, c, d, e⟩⟩
theorem nm_pool : ∀ x ∈ pool, Nm x := by decide +kernel
theorem in_letters {c : Nat} (h : c ∈ letters.cps.toList) : inD false (.str ⟨#[c]⟩) k_LETTERS = some (.bl true) := by
  show some (D.bl !(Builtin.Str.occurrences letters ⟨#[c]⟩ 0 letters.length 1).isEmpty) = _
  rw [StrLaws.found_one, decide_eq_true h]
theorem bls_true : ∀ {ds : List D}, (∀ d ∈ ds, d = .bl true) → ∃ bs, blsD ds = some bs ∧ bs.all id = true
  | [], _ => ⟨[], rfl, rfl⟩
  | d :: ds, h => by
    obtain ⟨bs, e, a⟩ := bls_true (ds := ds) fun y hy => h y (List.mem_cons_of_mem _ hy)
    obtain rfl := h d (by simp)
    exact ⟨true :: bs, by show (blsD ds).map _ = _; rw [e]; rfl, by simpa using a⟩
theorem name_ok {x : Str} (n : Nm x) : WS m_is_name (startS 2 [.d (.str x)]) fun out => ∃ s2, out = .rd (.bl true) s2 := by
  have l1 : x.length ≤ sizeLine := Nat.le_trans n.hi (by decide)
  have lt : (decide ((1 : Int) ≤ x.length)) = true := by have := n.lo; simp; omega
  have lt2 : (decide ((x.length : Int) ≤ 8)) = true := by have := n.hi; simp; omega
  unfold m_is_name
  array_get_dec
  refine iteB_ff (show (false ^^ inV (.str x) words) = false by rw [n.w]; rfl) ?_
  array_get_dec
  refine w_opt (show lenD [.str x] = some (.int x.length) by show (if _ then _ else _) = _; rw [if_pos l1]) ?_
  refine ⟨_, rfl, ?_⟩
  refine iteB_tt lt ?_
  array_get_dec
  refine w_cplL ?_
  array_get_dec
  refine ⟨_, rfl, ?_⟩
  refine w_comp (inv := fun ds acc s => (∀ d ∈ ds, ∃ c ∈ x.cps.toList, d = .str ⟨#[c]⟩) ∧ acc.length + ds.length = x.length ∧ (∀ d ∈ acc, d = .bl true) ∧ s = [some (.d (.str x)), none]) rfl ⟨fun d h => ?_, ?_, (fun d h => nomatch h), rfl⟩ ?_ ?_
  · obtain ⟨c, hc, rfl⟩ := List.mem_map.mp h
    exact ⟨c, hc, rfl⟩
  · rw [List.length_map, List.length_nil, Nat.zero_add]
    rfl
  · rintro d ds acc s ⟨hd, hl, ha, rfl⟩
    obtain ⟨c, hc, rfl⟩ := hd d (by simp)
    simp only [List.length_cons] at hl
    refine ⟨_, rfl, ?_⟩
    refine w_ret (iteB_t ?_)
    refine w_bin (w_var rfl (w_ret (w_opt (in_letters (n.ls c hc)) ?_)))
    refine ⟨Nat.lt_of_le_of_lt (by have := n.hi; omega : acc.length ≤ 8) (by decide), fun y hy => hd y (by simp [hy]), by simp; omega, ?_, rfl⟩
    intro y hy
    rcases List.mem_append.mp hy with hy | hy
    · exact ha y hy
    · simpa using hy
  rintro acc s2 ⟨_, _, ha, rfl⟩
  obtain ⟨bs, e, al⟩ := bls_true ha
  array_get_dec
  refine w_opt (show allD [.lst acc] = some (.bl true) by show (blsD acc).map _ = _; rw [e]; show some (D.bl (bs.all id)) = _; rw [al]) ?_
  array_get_dec
  exact ⟨_, rfl⟩
theorem w_name {s : S} {x : Str} {ms : M (List D)} {Q : D → S → Prop} (n : Nm x) (hm : Wp ms s fun ys s1 => ys = [.str x] ∧ s1 = s) (h : Q (.bl true) s) : Wp (callD 2 m_is_name ms []) s Q := by
  refine w_callD (hm.mono fun ys s1 ⟨e1, e2⟩ => ?_)
  subst e1
  subst e2
  exact (name_ok n).mono fun out ⟨s2, e⟩ => by subst e; exact h
theorem fl_map {xs : List Str} : flDs (xs.map D.str) = some (xs.map V.str) := by
  induction xs with
  | nil => rfl
  | cons x xs ih => show (some (V.str x)).bind _ = _; show (flDs (xs.map D.str)).map _ = _; rw [ih]; rfl
theorem inV_map {xs : List Str} {x : Str} : inV (.str x) (xs.map V.str) = decide (x ∈ xs) := by
  induction xs with
  | nil => rfl
  | cons y ys ih =>
    show (eqV (V.str y) (.str x) || inV (.str x) (ys.map V.str)) = _
    rw [ih]
    have e : eqV (V.str y) (.str x) = decide (y = x) := by
      show (y == x) = decide (y = x)
      rw [Bool.eq_iff_iff]
      simp
    rw [e]
    by_cases h : y = x
    · subst h; simp
    · have h2 : ¬ x = y := fun z => h z.symm
      simp [h, h2]
theorem cut_to {α : Type} {xs : List α} {k : Nat} (h : k ≤ xs.length) : cutD xs none (some (k : Int)) = xs.take k := by
  unfold cutD
  rw [HT.sIx_nat, HT.sIx_none, List.drop_zero, Nat.sub_zero, Nat.min_eq_left h]
theorem enum_drop {ds : List D} {k : Nat} {d : D} {r : List D} (e : (enumD ds).drop k = d :: r) : ∃ y, ds[k]? = some y ∧ d = .tup [.int (k : Int), y] ∧ r = (enumD ds).drop (k + 1) := by
  have h1 : (enumD ds)[k]? = some d := by
    have := List.getElem?_drop (xs := enumD ds) (i := k) (j := 0)
    rw [e] at this
    simpa using this.symm
  have h2 : r = (enumD ds).drop (k + 1) := by
    rw [← List.drop_drop, e]
    rfl
  unfold enumD at h1
  rw [List.getElem?_mapIdx] at h1
  cases q : ds[k]? with
  | none => rw [q] at h1; cases h1
  | some y => rw [q] at h1; cases h1; exact ⟨y, rfl, rfl, h2⟩
theorem switches_ok {xs : List Str} (l0 : 0 < xs.length) (l1 : xs.length ≤ 10) (nd : xs.Nodup) (hn : ∀ x ∈ xs, Nm x) : WS m_check_switches (startS 3 [.d (.tup (xs.map D.str))]) fun out => ∃ s2, out = .nx s2 := by
  unfold m_check_switches
  array_get_dec
  refine iteB_ff (by have ne : xs ≠ [] := by (rintro rfl; simp at l0)
                     simp [PyData.eqv, ne]) ?_
  array_get_dec
  refine v_forE ?_
  array_get_dec
  refine ⟨xs.map D.str, rfl, ?_⟩
  refine loop_ok (inv := fun ds s => ∃ (k : Nat) (t1 t2 : Option A), ds = (enumD (xs.map D.str)).drop k ∧ s = [some (.d (.tup (xs.map D.str))), t1, t2]) ?_ ?_ _ _ ⟨0, none, none, rfl, rfl⟩
  · rintro d ds s ⟨k, t1, t2, e, rfl⟩
    obtain ⟨y, ey, rfl, rfl⟩ := enum_drop e.symm
    rw [List.getElem?_map] at ey
    cases q : xs[k]? with
    | none => rw [q] at ey; cases ey
    | some x =>
      rw [q] at ey
      cases ey
      obtain ⟨lk, ek⟩ := List.getElem?_eq_some_iff.mp q
      have mx : x ∈ xs := ek ▸ List.getElem_mem lk
      refine ⟨_, rfl, ?_⟩
      have hk : decide ((10 : Int) ≤ (k : Int)) = false := by simp; omega
      have hc : inV (.str x) ((xs.take k).map V.str) = false := by
        rw [inV_map]
        refine decide_eq_false fun h => ?_
        obtain ⟨j, hj, ej⟩ := List.getElem_of_mem h
        rw [List.length_take] at hj
        rw [List.getElem_take] at ej
        have := (List.getElem_inj nd).mp (ej.trans ek.symm)
        omega
      array_get_dec
      refine w_name (hn x mx) ?_ ?_
      · array_get_dec
        exact ⟨rfl, rfl⟩
      array_get_dec
      refine w_opt (show inD false (.str x) (.tup (cutD (xs.map D.str) none (some (k : Int)))) = some (.bl false) from ?_) ?_
      · rw [cut_to (by rw [List.length_map]; omega), ← List.map_take]
        show (flDs _).map _ = _
        rw [fl_map]
        show some (D.bl (false ^^ inV (.str x) _)) = _
        rw [hc]
        rfl
      array_get_dec
      exact ⟨k + 1, _, _, rfl, rfl⟩
  · rintro s ⟨k, t1, t2, _, rfl⟩
    array_get_dec
    exact ⟨_, rfl⟩
theorem in_names {xs : List Str} {x : Str} (h : x ∈ xs) : inD false (.str x) (.tup (xs.map D.str)) = some (.bl true) := by
  show (flDs _).map _ = _
  rw [fl_map]
  show some (D.bl (false ^^ inV (.str x) _)) = _
  rw [inV_map, decide_eq_true h]
  rfl
theorem w_switch {s : S} {xs : List Str} {x : Str} {ms : M (List D)} {Q : D → S → Prop} (h : x ∈ xs) (hm : Wp ms s fun ys s1 => ys = [.tup (xs.map D.str), .str x] ∧ s1 = s) (q : Q (.bl true) s) : Wp (callD 2 m_is_switch ms []) s Q := by
  refine w_callD (hm.mono fun ys s1 ⟨e1, e2⟩ => ?_)
  subst e1
  subst e2
  unfold m_is_switch
  array_get_dec
  refine w_opt (in_names h) ?_
  array_get_dec
  exact q
theorem w_sign {s : S} {x : Str} {ms : M (List D)} {Q : D → S → Prop} (h : x ∈ SIG) (hm : Wp ms s fun ys s1 => ys = [.str x] ∧ s1 = s) (q : Q (.bl true) s) : Wp (callD 1 m_is_sign ms []) s Q := by
  refine w_callD (hm.mono fun ys s1 ⟨e1, e2⟩ => ?_)
  subst e1
  subst e2
  unfold m_is_sign
  array_get_dec
  have e : inV (.str x) (SIG.map V.str) = true := by rw [inV_map]; exact decide_eq_true h
  show Q (.bl (false ^^ inV (.str x) (SIG.map V.str))) s1
  rw [e]
  exact q
theorem w_literal {s : S} {xs : List Str} {x g : Str} {ms : M (List D)} {Q : D → S → Prop} (h : x ∈ xs) (hg : g ∈ SIG) (hm : Wp ms s fun ys s1 => ys = [.tup (xs.map D.str), .tup [.str x, .str g]] ∧ s1 = s) (q : Q (.bl true) s) : Wp (callD 2 m_is_literal ms []) s Q := by
  refine w_callD (hm.mono fun ys s1 ⟨e1, e2⟩ => ?_)
  subst e1
  subst e2
  unfold m_is_literal
  array_get_dec
  refine w_switch h ?_ ?_
  · array_get_dec
    exact ⟨rfl, rfl⟩
  array_get_dec
  refine w_sign hg ?_ ?_
  · array_get_dec
    exact ⟨rfl, rfl⟩
  array_get_dec
  exact q
theorem w_isrule {s : S} {xs : List Str} {d : D} {ms : M (List D)} {Q : D → S → Prop} (hn : ∀ x ∈ xs, Nm x) (r : IsRule xs d) (hm : Wp ms s fun ys s1 => ys = [.tup (xs.map D.str), d] ∧ s1 = s) (q : Q (.bl true) s) : Wp (callD 5 m_is_rule ms []) s Q := by
  refine w_callD (hm.mono fun ys s1 ⟨e1, e2⟩ => ?_)
  subst e1
  subst e2
  unfold m_is_rule
  rcases r with ⟨l, ⟨x, hx, g, hg, rfl⟩, rfl⟩ | ⟨w, hw, x, hx, y, hy, g, hg, k, hk, ne, rfl⟩ | ⟨w, hw, x, hx, y, hy, ne, rfl⟩
  · array_get_dec
    refine w_literal hx hg ?_ ?_
    · array_get_dec
      exact ⟨rfl, rfl⟩
    array_get_dec
    exact q
  · have ox := (hn x hx).ok
    have oy := (hn y hy).ok
    have nb : (true ^^ (x == y)) = true := by simp [ne]
    simp only [LitW, List.mem_cons, List.not_mem_nil, or_false] at hw
    rcases hw with rfl | rfl | rfl
    all_goals
      array_get_dec
      refine ⟨_, rfl, ?_⟩
      array_get_dec
      refine w_literal hx hg ?_ ?_
      · array_get_dec
        exact ⟨rfl, rfl⟩
      array_get_dec
      refine w_literal hy hk ?_ ?_
      · array_get_dec
        exact ⟨rfl, rfl⟩
      array_get_dec
      show Q (.bl (true ^^ (x == y))) s1
      rw [nb]
      exact q
  · have ox := (hn x hx).ok
    have oy := (hn y hy).ok
    have nb : (true ^^ (x == y)) = true := by simp [ne]
    simp only [NamW, List.mem_cons, List.not_mem_nil, or_false] at hw
    rcases hw with rfl | rfl
    all_goals
      array_get_dec
      refine ⟨_, rfl, ?_⟩
      array_get_dec
      refine w_switch hx ?_ ?_
      · array_get_dec
        exact ⟨rfl, rfl⟩
      array_get_dec
      refine w_switch hy ?_ ?_
      · array_get_dec
        exact ⟨rfl, rfl⟩
      array_get_dec
      show Q (.bl (true ^^ (x == y))) s1
      rw [nb]
      exact q
theorem rules_ok {xs : List Str} {ds : List D} (hn : ∀ x ∈ xs, Nm x) (hl : ds.length ≤ 240) (hr : ∀ d ∈ ds, IsRule xs d) : WS m_check_rules (startS 4 [.d (.tup (xs.map D.str)), .d (.tup ds)]) fun out => ∃ s2, out = .nx s2 := by
  unfold m_check_rules
  array_get_dec
  refine v_forE ?_
  array_get_dec
  refine ⟨ds, rfl, ?_⟩
  refine loop_ok (inv := fun es s => ∃ (k : Nat) (t1 t2 : Option A), es = (enumD ds).drop k ∧ s = [some (.d (.tup (xs.map D.str))), some (.d (.tup ds)), t1, t2]) ?_ ?_ _ _ ⟨0, none, none, rfl, rfl⟩
  · rintro d es s ⟨k, t1, t2, e, rfl⟩
    obtain ⟨y, ey, rfl, rfl⟩ := enum_drop e.symm
    obtain ⟨lk, ek⟩ := List.getElem?_eq_some_iff.mp ey
    have my : y ∈ ds := ek ▸ List.getElem_mem lk
    refine ⟨_, rfl, ?_⟩
    have hk : decide ((240 : Int) ≤ (k : Int)) = false := by simp; omega
    array_get_dec
    refine w_isrule hn (hr y my) ?_ ?_
    · array_get_dec
      exact ⟨rfl, rfl⟩
    array_get_dec
    exact ⟨k + 1, _, _, rfl, rfl⟩
  · rintro s ⟨k, t1, t2, _, rfl⟩
    array_get_dec
    exact ⟨_, rfl⟩
end Fli
set_option Elab.async false
set_option linter.all false
set_option maxRecDepth 100000
set_option maxHeartbeats 1000000
namespace Fli
open PySem L2
/-! equality of texts, tuples and lists of them -/
def tx : Nat → D → Bool
  | _, .str x => PyData.strOk x
  | n + 1, .tup ds => ds.all (tx n)
  | n + 1, .lst ds => ds.all (tx n)
  | _, _ => false
theorem txs_py {n : Nat} (ih : ∀ d, tx n d = true → ∃ p, toPy d = some p ∧ p.canLay0 = true ∧ p.depth ≤ n ∧ p.showable = true) : ∀ ds : List D, ds.all (tx n) = true → ∃ ps, toPys ds = some ps ∧ PyData.canLayAll0 ps = true ∧ PyData.depthAll ps ≤ n ∧ PyData.showableAll ps = true
  | [], _ => ⟨[], rfl, by simp only [PyData.canLayAll0], by simp only [PyData.depthAll]; omega, by simp only [PyData.showableAll]⟩
  | d :: ds, h => by
    simp only [List.all_cons, Bool.and_eq_true] at h
    obtain ⟨p, e, c, l, w⟩ := ih d h.1
    obtain ⟨ps, e2, c2, l2, w2⟩ := txs_py ih ds h.2
    refine ⟨p :: ps, ?_, ?_, ?_, ?_⟩
    · unfold toPys
      rw [e, e2]
      rfl
    · simp only [PyData.canLayAll0, c, c2, Bool.and_self]
    · simp only [PyData.depthAll]
      omega
    · simp only [PyData.showableAll, w, w2, Bool.and_self]
theorem tx_py : ∀ (n : Nat) (d : D), tx n d = true → ∃ p, toPy d = some p ∧ p.canLay0 = true ∧ p.depth ≤ n ∧ p.showable = true
  | n, .str x, h => by
    have h : PyData.strOk x = true := by (cases n <;> exact h)
    exact ⟨.str x, by unfold toPy; rfl, by simp only [PyData.canLay0, h], by simp only [PyData.depth]; omega, by simp only [PyData.showable]⟩
  | n + 1, .tup ds, h => by
    obtain ⟨ps, e, c, l, w⟩ := txs_py (tx_py n) ds h
    exact ⟨.tuple ps, by unfold toPy; rw [e]; rfl, by simp only [PyData.canLay0, c], by simp only [PyData.depth]; omega, by simp only [PyData.showable, w]⟩
  | n + 1, .lst ds, h => by
    obtain ⟨ps, e, c, l, w⟩ := txs_py (tx_py n) ds h
    exact ⟨.list ps, by unfold toPy; rw [e]; rfl, by simp only [PyData.canLay0, c], by simp only [PyData.depth]; omega, by simp only [PyData.showable, w]⟩
  | 0, .tup _, h => by cases h
  | 0, .lst _, h => by cases h
  | 0, .non, h => by cases h
  | 0, .bl _, h => by cases h
  | 0, .int _, h => by cases h
  | 0, .scr _, h => by cases h
  | 0, .ins _ _, h => by cases h
  | 0, .cls _, h => by cases h
  | 0, .dic _, h => by cases h
  | 0, .dit _, h => by cases h
  | n + 1, .non, h => by cases h
  | n + 1, .bl _, h => by cases h
  | n + 1, .int _, h => by cases h
  | n + 1, .scr _, h => by cases h
  | n + 1, .ins _ _, h => by cases h
  | n + 1, .cls _, h => by cases h
  | n + 1, .dic _, h => by cases h
  | n + 1, .dit _, h => by cases h
theorem txs_eq {n : Nat} (ih : ∀ x y p q, tx n x = true → tx n y = true → toPy x = some p → toPy y = some q → (PyData.eqv p q = true ↔ x = y)) : ∀ (xs ys : List D) (ps qs : List PyData), xs.all (tx n) = true → ys.all (tx n) = true → toPys xs = some ps → toPys ys = some qs → (PyData.eqvAll ps qs = true ↔ xs = ys)
  | [], [], ps, qs, _, _, e1, e2 => by
    unfold toPys at e1 e2
    cases e1
    cases e2
    simp [PyData.eqvAll]
  | [], y :: ys, ps, qs, _, h2, e1, e2 => by
    simp only [List.all_cons, Bool.and_eq_true] at h2
    obtain ⟨p, e, _⟩ := tx_py n y h2.1
    obtain ⟨rs, e3, _⟩ := txs_py (tx_py n) ys h2.2
    unfold toPys at e1 e2
    rw [e, e3] at e2
    cases e1
    cases e2
    simp [PyData.eqvAll]
  | x :: xs, [], ps, qs, h1, _, e1, e2 => by
    simp only [List.all_cons, Bool.and_eq_true] at h1
    obtain ⟨p, e, _⟩ := tx_py n x h1.1
    obtain ⟨rs, e3, _⟩ := txs_py (tx_py n) xs h1.2
    unfold toPys at e1 e2
    rw [e, e3] at e1
    cases e1
    cases e2
    simp [PyData.eqvAll]
  | x :: xs, y :: ys, ps, qs, h1, h2, e1, e2 => by
    simp only [List.all_cons, Bool.and_eq_true] at h1 h2
    obtain ⟨p, ep, _⟩ := tx_py n x h1.1
    obtain ⟨rs, er, _⟩ := txs_py (tx_py n) xs h1.2
    obtain ⟨q, eq, _⟩ := tx_py n y h2.1
    obtain ⟨us, eu, _⟩ := txs_py (tx_py n) ys h2.2
    have i1 := ih x y p q h1.1 h2.1 ep eq
    have i2 := txs_eq ih xs ys rs us h1.2 h2.2 er eu
    unfold toPys at e1 e2
    rw [ep, er] at e1
    rw [eq, eu] at e2
    cases e1
    cases e2
    simp only [PyData.eqvAll, Bool.and_eq_true, i1, i2, List.cons.injEq]
theorem tx_cases {n : Nat} {d : D} (h : tx n d = true) : (∃ x, d = .str x) ∨ (∃ m ds, n = m + 1 ∧ (d = .tup ds ∨ d = .lst ds) ∧ ds.all (tx m) = true) := by
  cases d with
  | str x => exact .inl ⟨x, rfl⟩
  | tup ds => cases n with
    | zero => cases h
    | succ m => exact .inr ⟨m, ds, rfl, .inl rfl, h⟩
  | lst ds => cases n with
    | zero => cases h
    | succ m => exact .inr ⟨m, ds, rfl, .inr rfl, h⟩
  | _ => cases n <;> cases h
theorem tx_eq : ∀ (n : Nat) (x y : D) (p q : PyData), tx n x = true → tx n y = true → toPy x = some p → toPy y = some q → (PyData.eqv p q = true ↔ x = y) := by
  intro n
  induction n with
  | zero =>
    intro x y p q h1 h2 e1 e2
    rcases tx_cases h1 with ⟨a, rfl⟩ | ⟨m, _, z, _⟩
    · rcases tx_cases h2 with ⟨b, rfl⟩ | ⟨m, _, z, _⟩
      · unfold toPy at e1 e2
        cases e1
        cases e2
        simp [PyData.eqv]
      · cases z
    · cases z
  | succ n ih =>
    intro x y p q h1 h2 e1 e2
    rcases tx_cases h1 with ⟨a, rfl⟩ | ⟨m, ds, z, k1, g1⟩
    · rcases tx_cases h2 with ⟨b, rfl⟩ | ⟨m, es, z, k2, g2⟩
      · unfold toPy at e1 e2
        cases e1
        cases e2
        simp [PyData.eqv]
      · cases z
        obtain ⟨rs, er, _⟩ := txs_py (tx_py n) es g2
        rcases k2 with rfl | rfl <;> (unfold toPy at e1 e2; rw [er] at e2; cases e1; cases e2; simp [PyData.eqv])
    · cases z
      obtain ⟨us, eu, _⟩ := txs_py (tx_py n) ds g1
      rcases tx_cases h2 with ⟨b, rfl⟩ | ⟨m, es, z, k2, g2⟩
      · rcases k1 with rfl | rfl <;> (unfold toPy at e1 e2; rw [eu] at e1; cases e1; cases e2; simp [PyData.eqv])
      · cases z
        obtain ⟨rs, er, _⟩ := txs_py (tx_py n) es g2
        have i := txs_eq ih ds es us rs g1 g2 eu er
        rcases k1 with rfl | rfl <;> rcases k2 with rfl | rfl <;> (unfold toPy at e1 e2; rw [eu] at e1; rw [er] at e2; cases e1; cases e2; simp [PyData.eqv, i])
theorem eqD_tx {neg : Bool} {n : Nat} {x y : D} (hn : n ≤ 64) (h1 : tx n x = true) (h2 : tx n y = true) : ∃ b, eqD neg x y = some (.bl (neg ^^ b)) ∧ (b = true ↔ x = y) := by
  obtain ⟨p, ep, c1, l1, _⟩ := tx_py n x h1
  obtain ⟨q, eq, c2, l2, _⟩ := tx_py n y h2
  refine ⟨PyData.eqv p q, ?_, tx_eq n x y p q h1 h2 ep eq⟩
  unfold eqD
  rw [ep, eq]
  show (if SeqAt.shaped p = true ∧ SeqAt.shaped q = true then _ else none) = _
  rw [if_pos ⟨by unfold SeqAt.shaped; rw [c1, decide_eq_true (by omega : p.depth ≤ 64)]; rfl, by unfold SeqAt.shaped; rw [c2, decide_eq_true (by omega : q.depth ≤ 64)]; rfl⟩]
end Fli
set_option Elab.async false
set_option linter.all false
set_option maxRecDepth 100000
set_option maxHeartbeats 1000000
namespace Fli
open PySem L2
local macro_rules | `(tactic| array_get_dec) => `(tactic| (repeat (first | with_reducible refine v_seq ?_ | with_reducible refine thenO_nx ?_ | with_reducible refine thenO_rd ?_ | with_reducible refine thenO_ro ?_ | with_reducible refine iteB_t ?_ | with_reducible refine iteB_f ?_ | with_reducible refine v_nx ?_ | with_reducible refine v_ret ?_ | with_reducible refine v_retO ?_ | with_reducible refine v_if ?_ | with_reducible refine v_asg ?_ | with_reducible refine v_asgO ?_ | with_reducible refine v_asgF ?_ | with_reducible refine v_drop ?_ | with_reducible refine v_par ?_ | with_reducible refine v_par3 ?_ | with_reducible refine v_put ?_ | with_reducible refine w_bind ?_ | with_reducible refine w_bin ?_ | with_reducible refine w_binO ?_ | with_reducible refine w_ret ?_ | with_reducible refine w_ifM ?_ | with_reducible refine w_andB ?_ | with_reducible refine w_orB ?_ | with_reducible refine w_andV ?_ | with_reducible refine w_orV ?_ | with_reducible refine w_slM ?_ | with_reducible refine w_chM ?_ | ((with_reducible show ∃ k, truD _ = some k ∧ iteB k _ _); refine ⟨_, rfl, ?_⟩) | ((with_reducible refine w_eqS ?_ ?_ ?_); (first | assumption | decide +kernel); (first | assumption | decide +kernel)) | ((with_reducible refine iteB_tt ?_ ?_); decide +kernel) | ((with_reducible refine iteB_ff ?_ ?_); decide +kernel) | ((with_reducible refine iteB_tt ?_ ?_); assumption) | ((with_reducible refine iteB_ff ?_ ?_); assumption) | ((with_reducible show iteB _ _ _); first | refine iteB_tt rfl ?_ | refine iteB_ff rfl ?_) | ((with_reducible show ∃ k, cmpD _ _ _ = some (D.bl k) ∧ iteB k _ _); refine ⟨_, rfl, ?_⟩) | ((with_reducible refine w_mul ?_ ?_); first | exact Or.inl ⟨of_decide_eq_true rfl, of_decide_eq_true rfl⟩ | exact Or.inr ⟨of_decide_eq_true rfl, of_decide_eq_true rfl⟩) | ((with_reducible refine w_mod ?_ ?_); exact of_decide_eq_true rfl) | ((with_reducible refine w_div ?_ ?_); exact ⟨of_decide_eq_true rfl, of_decide_eq_true rfl⟩) | ((with_reducible refine w_pow ?_ ?_); exact ⟨of_decide_eq_true rfl, of_decide_eq_true rfl, of_decide_eq_true rfl⟩) | ((with_reducible refine w_lstM ?_ ?_); exact of_decide_eq_true rfl) | ((with_reducible refine w_tupM ?_ ?_); exact of_decide_eq_true rfl) | with_reducible refine w_mul ?_ ?_ | with_reducible refine w_div ?_ ?_ | with_reducible refine w_mod ?_ ?_ | with_reducible refine w_pow ?_ ?_ | with_reducible refine w_lstM ?_ ?_ | with_reducible refine w_tupM ?_ ?_ | ((with_reducible show Wp (mVar _) _ _); refine w_var rfl ?_) | ((with_reducible show Wp (ixN _ _) _ _); first | refine w_ixO rfl rfl ?_ | refine w_ixD rfl rfl ?_) | ((with_reducible show Wp (lenN _) _ _); refine w_lenO rfl ?_) | ((with_reducible show Wp (frzN _) _ _); first | refine w_frzO rfl ?_ | refine w_frzD rfl ?_) | ((with_reducible show Wp (optM _) _ _); refine w_opt rfl ?_))))
/-! panels -/
theorem v_setF {s : S} {i : Nat} {c f : Str} {m : M D} {Q : Out → Prop} (h : Wp m s fun d s1 => ∃ fs, slotO i s1 = some (.obj c fs) ∧ fs.length < 1000 ∧ Q (.nx (s1.set i (some (.own (.obj c (putD f d fs))))))) : WS (setFM i c f m) s Q := by
  obtain ⟨d, s1, e, fs, e1, l, q⟩ := h
  exact ⟨_, by unfold setFM; rw [e]; show (match slotO i s1 with | some (.obj c' fs) => _ | _ => _) = _; rw [e1]; show (if _ then _ else _) = _; rw [if_pos ⟨rfl, l⟩], q⟩
structure Pan (xs : List Str) (ds : List D) : Prop where
  l0 : 0 < xs.length
  l1 : xs.length ≤ 10
  nd : xs.Nodup
  nm : ∀ x ∈ xs, Nm x
  lr : ds.length ≤ 240
  ru : ∀ d ∈ ds, IsRule xs d
abbrev pan (xs : List Str) (ds : List D) : List (Str × D) := [("switches", .tup (xs.map D.str)), ("rules", .tup ds)]
abbrev panD (xs : List Str) (ds : List D) : D := .ins "Panel" (pan xs ds)
theorem init_ok {xs : List Str} {ds : List D} (p : Pan xs ds) : mkR 3 m_Panel___init__ "Panel" [.tup (xs.map D.str), .tup ds] = some (.obj "Panel" (pan xs ds)) := by
  have run : WS m_Panel___init__ (startS 3 [.own (.obj "Panel" []), .d (.tup (xs.map D.str)), .d (.tup ds)]) fun out => ∃ s2, out = .nx s2 ∧ firstO s2 = some (.obj "Panel" (pan xs ds)) := by
    unfold m_Panel___init__
    array_get_dec
    refine w_callD ?_
    array_get_dec
    refine (switches_ok p.l0 p.l1 p.nd p.nm).mono ?_
    rintro out ⟨s2, rfl⟩
    show thenO _ _ _
    array_get_dec
    refine w_callD ?_
    array_get_dec
    refine (rules_ok p.nm p.lr p.ru).mono ?_
    rintro out ⟨s3, rfl⟩
    show thenO _ _ _
    array_get_dec
    refine v_setF ?_
    array_get_dec
    refine ⟨_, rfl, by decide, ?_⟩
    array_get_dec
    refine v_setF ?_
    array_get_dec
    refine ⟨_, rfl, of_decide_eq_true rfl, ?_⟩
    array_get_dec
    refine ⟨_, rfl, ?_⟩
    show some (O.obj "Panel" (putD "rules" (.tup ds) (putD "switches" (.tup (xs.map D.str)) []))) = _
    have ne : ¬ (("switches" : Str) = "rules") := by decide +kernel
    show some (O.obj "Panel" (if ("switches" : Str) = "rules" then _ else _)) = _
    rw [if_neg ne]
    rfl
  obtain ⟨o, e, s2, rfl, e2⟩ := run
  unfold mkR callR
  show (m_Panel___init__ (startS 3 [.own (.obj "Panel" []), .d (.tup (xs.map D.str)), .d (.tup ds)])).bind _ = _
  rw [e]
  show (firstO s2).bind _ = _
  rw [e2]
  rfl
theorem w_mkO {s : S} {n : Nat} {body : MS} {c : Str} {ms : M (List D)} {g : List D → List D} {Q : O → S → Prop} (h : Wp ms s fun xs s1 => ∃ o, mkR n body c (g xs) = some o ∧ Q o s1) : Wp (mkO n body c ms g) s Q := w_bind (h.mono fun xs s1 ⟨o, e, q⟩ => w_opt e q)
theorem ins_pan {xs : List Str} {ds : List D} : insC "Panel" (panD xs ds) = some (panD xs ds) := by unfold insC; exact if_pos rfl
theorem tx_names {xs : List Str} (h : ∀ x ∈ xs, Nm x) : tx 3 (.tup (xs.map D.str)) = true := by
  show (xs.map D.str).all (tx 2) = true
  rw [List.all_eq_true]
  intro d hd
  obtain ⟨x, hx, rfl⟩ := List.mem_map.mp hd
  exact (h x hx).ok
theorem word_ok {w : Str} (h : w ∈ LitW ∨ w ∈ NamW ∨ w = "be") : PyData.strOk w = true := by
  have q : ∀ w ∈ (["either", "needs", "bars", "same", "unlike", "be"] : List Str), PyData.strOk w = true := by decide +kernel
  refine q w ?_
  simp only [LitW, NamW, List.mem_cons, List.not_mem_nil, or_false] at h ⊢
  rcases h with (h | h | h) | (h | h) | h <;> simp [h]
theorem tx_rule {xs : List Str} {d : D} (h : ∀ x ∈ xs, Nm x) (r : IsRule xs d) : tx 2 d = true := by
  rcases r with ⟨l, ⟨x, hx, g, hg, rfl⟩, rfl⟩ | ⟨w, hw, x, hx, y, hy, g, hg, k, hk, ne, rfl⟩ | ⟨w, hw, x, hx, y, hy, ne, rfl⟩
  · have a := word_ok (.inr (.inr rfl))
    have b := (h x hx).ok
    have c := sig_ok hg
    simp [tx, a, b, c]
  · have a := word_ok (.inl hw)
    have b := (h x hx).ok
    have c := sig_ok hg
    have b2 := (h y hy).ok
    have c2 := sig_ok hk
    simp [tx, a, b, c, b2, c2]
  · have a := word_ok (.inr (.inl hw))
    have b := (h x hx).ok
    have b2 := (h y hy).ok
    simp [tx, a, b, b2]
theorem tx_rules {xs : List Str} {ds : List D} (p : Pan xs ds) : tx 3 (.tup ds) = true := by
  show ds.all (tx 2) = true
  rw [List.all_eq_true]
  exact fun d hd => tx_rule p.nm (p.ru d hd)
end Fli
set_option Elab.async false
set_option linter.all false
set_option maxRecDepth 100000
set_option maxHeartbeats 1000000
namespace Fli
open PySem L2
local macro_rules | `(tactic| array_get_dec) => `(tactic| (repeat (first | with_reducible refine v_seq ?_ | with_reducible refine thenO_nx ?_ | with_reducible refine thenO_rd ?_ | with_reducible refine thenO_ro ?_ | with_reducible refine iteB_t ?_ | with_reducible refine iteB_f ?_ | with_reducible refine v_nx ?_ | with_reducible refine v_ret ?_ | with_reducible refine v_retO ?_ | with_reducible refine v_if ?_ | with_reducible refine v_asg ?_ | with_reducible refine v_asgO ?_ | with_reducible refine v_asgF ?_ | with_reducible refine v_drop ?_ | with_reducible refine v_par ?_ | with_reducible refine v_par3 ?_ | with_reducible refine v_put ?_ | with_reducible refine w_bind ?_ | with_reducible refine w_bin ?_ | with_reducible refine w_binO ?_ | with_reducible refine w_ret ?_ | with_reducible refine w_ifM ?_ | with_reducible refine w_andB ?_ | with_reducible refine w_orB ?_ | with_reducible refine w_andV ?_ | with_reducible refine w_orV ?_ | with_reducible refine w_slM ?_ | with_reducible refine w_chM ?_ | ((with_reducible show ∃ k, truD _ = some k ∧ iteB k _ _); refine ⟨_, rfl, ?_⟩) | ((with_reducible refine w_eqS ?_ ?_ ?_); (first | assumption | decide +kernel); (first | assumption | decide +kernel)) | ((with_reducible refine iteB_tt ?_ ?_); decide +kernel) | ((with_reducible refine iteB_ff ?_ ?_); decide +kernel) | ((with_reducible refine iteB_tt ?_ ?_); assumption) | ((with_reducible refine iteB_ff ?_ ?_); assumption) | ((with_reducible show iteB _ _ _); first | refine iteB_tt rfl ?_ | refine iteB_ff rfl ?_) | ((with_reducible show ∃ k, cmpD _ _ _ = some (D.bl k) ∧ iteB k _ _); refine ⟨_, rfl, ?_⟩) | ((with_reducible refine w_mul ?_ ?_); first | exact Or.inl ⟨of_decide_eq_true rfl, of_decide_eq_true rfl⟩ | exact Or.inr ⟨of_decide_eq_true rfl, of_decide_eq_true rfl⟩) | ((with_reducible refine w_mod ?_ ?_); exact of_decide_eq_true rfl) | ((with_reducible refine w_div ?_ ?_); exact ⟨of_decide_eq_true rfl, of_decide_eq_true rfl⟩) | ((with_reducible refine w_pow ?_ ?_); exact ⟨of_decide_eq_true rfl, of_decide_eq_true rfl, of_decide_eq_true rfl⟩) | ((with_reducible refine w_lstM ?_ ?_); exact of_decide_eq_true rfl) | ((with_reducible refine w_tupM ?_ ?_); exact of_decide_eq_true rfl) | with_reducible refine w_mul ?_ ?_ | with_reducible refine w_div ?_ ?_ | with_reducible refine w_mod ?_ ?_ | with_reducible refine w_pow ?_ ?_ | with_reducible refine w_lstM ?_ ?_ | with_reducible refine w_tupM ?_ ?_ | ((with_reducible show Wp (mVar _) _ _); refine w_var rfl ?_) | ((with_reducible show Wp (ixN _ _) _ _); first | refine w_ixO rfl rfl ?_ | refine w_ixD rfl rfl ?_) | ((with_reducible show Wp (lenN _) _ _); refine w_lenO rfl ?_) | ((with_reducible show Wp (frzN _) _ _); first | refine w_frzO rfl ?_ | refine w_frzD rfl ?_) | ((with_reducible show Wp (optM _) _ _); refine w_opt rfl ?_))))
theorem len_ok {xs : List Str} {ds : List D} (p : Pan xs ds) : lenC 1 m_Panel___len__ "Panel" (panD xs ds) = some (.int ds.length) := by
  have e : ownM 1 m_Panel___len__ [panD xs ds] = some (.int ds.length) := by
    refine own_of ?_
    unfold m_Panel___len__
    array_get_dec
    exact ⟨_, rfl⟩
  have := p.lr
  unfold lenC
  rw [ins_pan, Option.bind_some, e, Option.bind_some]
  exact if_pos ⟨by omega, by omega⟩
theorem eq_ok {xs ys : List Str} {ds es : List D} (p : Pan xs ds) (q : Pan ys es) : ∃ b, ownM 2 m_Panel___eq__ [panD xs ds, panD ys es] = some (.bl b) ∧ (b = true ↔ xs = ys ∧ ds = es) := by
  obtain ⟨b1, e1, i1⟩ := eqD_tx (neg := false) (by decide) (tx_names p.nm) (tx_names q.nm)
  obtain ⟨b2, e2, i2⟩ := eqD_tx (neg := false) (by decide) (tx_rules p) (tx_rules q)
  have inj : D.tup (xs.map D.str) = .tup (ys.map D.str) ↔ xs = ys := by
    constructor
    · intro h
      exact (List.map_inj_right (fun a b h => D.str.inj h)).mp (D.tup.inj h)
    · rintro rfl; rfl
  have inj2 : D.tup ds = .tup es ↔ ds = es := ⟨fun h => D.tup.inj h, fun h => by rw [h]⟩
  refine ⟨b1 && b2, own_of ?_, by rw [Bool.and_eq_true, i1, i2, inj, inj2]⟩
  unfold m_Panel___eq__
  array_get_dec
  refine w_opt e1 ?_
  cases b1 with
  | false => array_get_dec; exact ⟨_, rfl⟩
  | true =>
    array_get_dec
    refine w_opt e2 ?_
    array_get_dec
    exact ⟨_, by cases b2 <;> rfl⟩
theorem eqO_pan {xs ys : List Str} {ds es : List D} (p : Pan xs ds) (q : Pan ys es) : ∃ b, eqO 2 m_Panel___eq__ "Panel" (panD xs ds) (panD ys es) = some (.bl b) ∧ (b = true ↔ xs = ys ∧ ds = es) := by
  obtain ⟨b, e, i⟩ := eq_ok p q
  refine ⟨b, ?_, i⟩
  unfold eqO
  rw [ins_pan, Option.bind_some, ins_pan]
  show (ownM 2 m_Panel___eq__ [panD xs ds, panD ys es]).bind _ = _
  rw [e]
  rfl
theorem neO_pan {xs ys : List Str} {ds es : List D} (p : Pan xs ds) (q : Pan ys es) : ∃ b, neO 2 m_Panel___eq__ "Panel" (panD xs ds) (panD ys es) = some (.bl !b) ∧ (b = true ↔ xs = ys ∧ ds = es) := by
  obtain ⟨b, e, i⟩ := eq_ok p q
  refine ⟨b, ?_, i⟩
  unfold neO
  rw [ins_pan, Option.bind_some, ins_pan]
  show (ownM 2 m_Panel___eq__ [panD xs ds, panD ys es]).bind _ = _
  rw [e]
  rfl
theorem eqO_other {xs : List Str} {ds : List D} {d : D} (h : isC "Panel" d = some (.bl false)) (ht : (tyD d).isSome = true) : eqO 2 m_Panel___eq__ "Panel" (panD xs ds) d = some (.bl false) := by
  have e : ownM 2 m_Panel___eq__ [panD xs ds, d] = some (.bl false) := by
    refine own_of ?_
    unfold m_Panel___eq__
    refine v_seq (v_ret (w_andV (w_bind (w_var rfl (w_opt h ⟨false, rfl, iteB_f ?_⟩)))))
    exact ⟨_, rfl⟩
  unfold eqO
  rw [ins_pan]
  show (if ((tyD d).isSome || (insC "Panel" d).isSome) = true then _ else none) = _
  rw [ht, Bool.true_or, if_pos rfl, e]
  rfl
theorem tru_ok {xs : List Str} {ds : List D} (p : Pan xs ds) : truC 1 m_Panel___len__ "Panel" (panD xs ds) = some ((ds.length : Int) != 0) := by
  unfold truC
  rw [len_ok p]
  rfl
end Fli
set_option Elab.async false
set_option linter.all false
set_option maxRecDepth 100000
set_option maxHeartbeats 1000000
namespace Fli
open PySem L2
/-! literals, rules, settings, as they are meant -/
abbrev Lit := Str × Bool
def sgn : Bool → Str
  | true => "+"
  | false => "-"
inductive Ru where
  | be (l : Lit) | either (l m : Lit) | needs (l m : Lit) | bars (l m : Lit) | same (x y : Str) | unlike (x y : Str)
def dL (l : Lit) : D := .tup [.str l.1, .str (sgn l.2)]
def Ru.d : Ru → D
  | .be l => .tup [.str "be", dL l]
  | .either l m => .tup [.str "either", dL l, dL m]
  | .needs l m => .tup [.str "needs", dL l, dL m]
  | .bars l m => .tup [.str "bars", dL l, dL m]
  | .same x y => .tup [.str "same", .str x, .str y]
  | .unlike x y => .tup [.str "unlike", .str x, .str y]
def Ru.ok (xs : List Str) : Ru → Prop
  | .be l => l.1 ∈ xs
  | .either l m => l.1 ∈ xs ∧ m.1 ∈ xs ∧ l.1 ≠ m.1
  | .needs l m => l.1 ∈ xs ∧ m.1 ∈ xs ∧ l.1 ≠ m.1
  | .bars l m => l.1 ∈ xs ∧ m.1 ∈ xs ∧ l.1 ≠ m.1
  | .same x y => x ∈ xs ∧ y ∈ xs ∧ x ≠ y
  | .unlike x y => x ∈ xs ∧ y ∈ xs ∧ x ≠ y
def op (l : Lit) : Lit := (l.1, !l.2)
/-- of each pair one has to hold -/
def Ru.cl : Ru → List (Lit × Lit)
  | .be l => [(l, l)]
  | .either l m => [(l, m)]
  | .needs l m => [(op l, m)]
  | .bars l m => [(op l, op m)]
  | .same x y => [((x, false), (y, true)), ((x, true), (y, false))]
  | .unlike x y => [((x, true), (y, true)), ((x, false), (y, false))]
def pos (xs : List Str) (x : Str) : Nat := xs.findIdx (· == x)
def val (xs : List Str) (b : List Bool) (x : Str) : Bool := b.getD (pos xs x) false
def hol (xs : List Str) (b : List Bool) (l : Lit) : Bool := val xs b l.1 == l.2
def clo (xs : List Str) (b : List Bool) (q : Lit × Lit) : Bool := hol xs b q.1 || hol xs b q.2
def kee (xs : List Str) (b : List Bool) (r : Ru) : Bool := r.cl.all (clo xs b)
theorem pos_lt {xs : List Str} {x : Str} (h : x ∈ xs) : pos xs x < xs.length := by
  unfold pos
  exact List.findIdx_lt_length_of_exists ⟨x, h, by simp⟩
theorem tix_pos {xs : List Str} {x : Str} (h : x ∈ xs) : tixD (.tup (xs.map D.str)) (.str x) = some (.int (pos xs x)) := by
  show (strsD _).bind _ = _
  rw [strs_map]
  show (xs.findIdx? (· == x)).map _ = _
  have l := pos_lt h
  have e : xs.findIdx? (· == x) = some (pos xs x) := by
    rw [List.findIdx?_eq_some_iff_findIdx_eq]
    exact ⟨l, rfl⟩
  rw [e]
  rfl
theorem sgn_sig (b : Bool) : sgn b ∈ SIG := by cases b <;> simp [sgn, SIG]
theorem sig_sgn {g : Str} (h : g ∈ SIG) : ∃ b, g = sgn b := by
  simp only [SIG, List.mem_cons, List.not_mem_nil, or_false] at h
  rcases h with rfl | rfl
  · exact ⟨true, rfl⟩
  · exact ⟨false, rfl⟩
theorem IsRule.ru {xs : List Str} {d : D} (r : IsRule xs d) : ∃ r : Ru, r.ok xs ∧ d = r.d := by
  rcases r with ⟨l, ⟨x, hx, g, hg, rfl⟩, rfl⟩ | ⟨w, hw, x, hx, y, hy, g, hg, k, hk, ne, rfl⟩ | ⟨w, hw, x, hx, y, hy, ne, rfl⟩
  · obtain ⟨a, rfl⟩ := sig_sgn hg
    exact ⟨.be (x, a), hx, rfl⟩
  · obtain ⟨a, rfl⟩ := sig_sgn hg
    obtain ⟨b, rfl⟩ := sig_sgn hk
    simp only [LitW, List.mem_cons, List.not_mem_nil, or_false] at hw
    rcases hw with rfl | rfl | rfl
    · exact ⟨.either (x, a) (y, b), ⟨hx, hy, ne⟩, rfl⟩
    · exact ⟨.needs (x, a) (y, b), ⟨hx, hy, ne⟩, rfl⟩
    · exact ⟨.bars (x, a) (y, b), ⟨hx, hy, ne⟩, rfl⟩
  · simp only [NamW, List.mem_cons, List.not_mem_nil, or_false] at hw
    rcases hw with rfl | rfl
    · exact ⟨.same x y, ⟨hx, hy, ne⟩, rfl⟩
    · exact ⟨.unlike x y, ⟨hx, hy, ne⟩, rfl⟩
theorem Ru.isRule {xs : List Str} {r : Ru} (h : r.ok xs) : IsRule xs r.d := by
  cases r with
  | be l => exact .inl ⟨_, ⟨l.1, h, _, sgn_sig l.2, rfl⟩, rfl⟩
  | either l m => exact .inr (.inl ⟨"either", by simp [LitW], l.1, h.1, m.1, h.2.1, _, sgn_sig l.2, _, sgn_sig m.2, h.2.2, rfl⟩)
  | needs l m => exact .inr (.inl ⟨"needs", by simp [LitW], l.1, h.1, m.1, h.2.1, _, sgn_sig l.2, _, sgn_sig m.2, h.2.2, rfl⟩)
  | bars l m => exact .inr (.inl ⟨"bars", by simp [LitW], l.1, h.1, m.1, h.2.1, _, sgn_sig l.2, _, sgn_sig m.2, h.2.2, rfl⟩)
  | same x y => exact .inr (.inr ⟨"same", by simp [NamW], x, h.1, y, h.2.1, h.2.2, rfl⟩)
  | unlike x y => exact .inr (.inr ⟨"unlike", by simp [NamW], x, h.1, y, h.2.1, h.2.2, rfl⟩)
theorem isRules_ru {xs : List Str} : ∀ {ds : List D}, (∀ d ∈ ds, IsRule xs d) → ∃ rs : List Ru, (∀ r ∈ rs, r.ok xs) ∧ ds = rs.map Ru.d
  | [], _ => ⟨[], (fun r h => nomatch h), rfl⟩
  | d :: ds, h => by
    obtain ⟨r, hr, rfl⟩ := (h d (by simp)).ru
    obtain ⟨rs, hrs, rfl⟩ := isRules_ru fun d hd => h d (List.mem_cons_of_mem _ hd)
    exact ⟨r :: rs, fun q hq => by rcases List.mem_cons.mp hq with rfl | hq; exact hr; exact hrs q hq, rfl⟩
theorem cl_in {xs : List Str} {r : Ru} (h : r.ok xs) : ∀ q ∈ r.cl, q.1.1 ∈ xs ∧ q.2.1 ∈ xs := by
  intro q hq
  cases r <;> simp only [Ru.cl, List.mem_cons, List.not_mem_nil, or_false] at hq
  · subst hq; exact ⟨h, h⟩
  · subst hq; exact ⟨h.1, h.2.1⟩
  · subst hq; exact ⟨h.1, h.2.1⟩
  · subst hq; exact ⟨h.1, h.2.1⟩
  · rcases hq with rfl | rfl <;> exact ⟨h.1, h.2.1⟩
  · rcases hq with rfl | rfl <;> exact ⟨h.1, h.2.1⟩
/-! texts of signs -/
def sc (b : Bool) : Nat := if b then 43 else 45
def txt (b : List Bool) : Str := ⟨(b.map sc).toArray⟩
theorem txt_list (b : List Bool) : (txt b).cps.toList = b.map sc := by simp [txt]
theorem txt_len (b : List Bool) : (txt b).length = b.length := by
  show (txt b).cps.size = _
  simp [txt]
theorem sgn_sc (b : Bool) : sgn b = ⟨#[sc b]⟩ := by cases b <;> decide +kernel
theorem txt_snoc (b : List Bool) (t : Bool) : txt b ++ sgn t = txt (b ++ [t]) := by
  rw [sgn_sc]
  show (⟨(txt b).cps ++ #[sc t]⟩ : Str) = _
  unfold txt
  simp
theorem tex_txt {z : Str} {n : Nat} (t : Tex z n) : ∃ b : List Bool, z = txt b ∧ b.length = n ∧ n ≤ 10 := by
  obtain ⟨l, l2, h⟩ := t
  have key : ∀ cs : List Nat, (∀ c ∈ cs, (⟨#[c]⟩ : Str) ∈ SIG) → ∃ b : List Bool, cs = b.map sc := by
    intro cs
    induction cs with
    | nil => exact fun _ => ⟨[], rfl⟩
    | cons c cs ih =>
      intro h
      obtain ⟨b, rfl⟩ := ih fun c hc => h c (List.mem_cons_of_mem _ hc)
      obtain ⟨t, e⟩ := sig_sgn (h c (by simp))
      rw [sgn_sc] at e
      have e : c = sc t := by injection e with e; injection e with e; injection e
      exact ⟨t :: b, by rw [List.map_cons, e]⟩
  obtain ⟨b, e⟩ := key _ h
  have ez : z = txt b := by
    unfold txt
    rw [← e]
  refine ⟨b, ez, ?_, l2⟩
  rw [← txt_len, ← ez, l]
theorem txt_tex {b : List Bool} (h : b.length ≤ 10) : Tex (txt b) b.length := by
  refine ⟨txt_len b, h, fun c hc => ?_⟩
  rw [txt_list] at hc
  obtain ⟨t, _, rfl⟩ := List.mem_map.mp hc
  rw [← sgn_sc]
  exact sgn_sig t
theorem txt_at {b : List Bool} {i : Nat} (h : i < b.length) (l : b.length ≤ 20) : atD (.str (txt b)) (.int (i : Int)) = some (.str (sgn (b.getD i false))) := by
  have ls : (txt b).length ≤ sizeLine := Nat.le_trans (by rw [txt_len]; exact l) (by decide)
  show (if (txt b).length ≤ sizeLine then (atI (txt b).cps.toList i).map fun c => D.str ⟨#[c]⟩ else none) = _
  rw [if_pos ls, txt_list]
  have e : atI (b.map sc) (i : Int) = some (sc (b.getD i false)) := by
    unfold atI L2.ixN
    rw [if_pos (by omega), if_pos (by rw [List.length_map]; omega)]
    show (b.map sc)[i]? = _
    rw [List.getElem?_map, List.getElem?_eq_getElem h, List.getD_eq_getElem?_getD, List.getElem?_eq_getElem h]
    rfl
  rw [e, sgn_sc]
  rfl
theorem ok_sgn (b : Bool) : PyData.strOk (sgn b) = true := sig_ok (sgn_sig b)
theorem eq_sgn (neg a b : Bool) : eqD neg (.str (sgn a)) (.str (sgn b)) = some (.bl (neg ^^ (a == b))) := by
  show (if SeqAt.shaped (.str (sgn a)) = true ∧ SeqAt.shaped (.str (sgn b)) = true then some (D.bl (neg ^^ PyData.eqv (.str (sgn a)) (.str (sgn b)))) else none) = _
  rw [if_pos ⟨shaped_str.trans (ok_sgn a), shaped_str.trans (ok_sgn b)⟩]
  cases a <;> cases b <;> (simp only [PyData.eqv]; congr 3)
/-! all settings, in their order -/
def allB : Nat → List (List Bool)
  | 0 => [[]]
  | n + 1 => (allB n).flatMap fun h => [h ++ [true], h ++ [false]]
theorem allB_len : ∀ (n : Nat), ∀ b ∈ allB n, b.length = n
  | 0, b, h => by simp [allB] at h; simp [h]
  | n + 1, b, h => by
    simp only [allB, List.mem_flatMap] at h
    obtain ⟨c, hc, h⟩ := h
    have := allB_len n c hc
    simp at h
    rcases h with rfl | rfl <;> simp [this]
theorem flat2 {α β : Type} (f g : α → β) : ∀ xs : List α, (xs.flatMap fun a => [f a, g a]).length = 2 * xs.length
  | [] => rfl
  | a :: xs => by rw [List.flatMap_cons, List.length_append, flat2 f g xs]; simp only [List.length_cons, List.length_nil]; omega
theorem allB_size : ∀ n : Nat, (allB n).length = 2 ^ n
  | 0 => rfl
  | n + 1 => by
    rw [allB, flat2, allB_size n, Nat.pow_succ]
    omega
def goods (xs : List Str) (rs : List Ru) : List (List Bool) := (allB xs.length).filter fun b => rs.all (kee xs b)
theorem goods_len {xs : List Str} {rs : List Ru} (h : xs.length ≤ 10) : (goods xs rs).length ≤ 1024 := by
  refine Nat.le_trans (List.length_filter_le _ _) ?_
  rw [allB_size]
  exact Nat.pow_le_pow_right (by decide) h
end Fli
set_option Elab.async false
set_option linter.all false
set_option maxRecDepth 100000
set_option maxHeartbeats 1000000
namespace Fli
open PySem L2
open TL (tl)
/-! the texts of literals, rules, panels, as they are meant -/
def litS (l : Lit) : Str := sgn l.2 ++ l.1
def Ru.ws : Ru → List Str
  | .be l => ["be", litS l]
  | .either l m => ["either", litS l, litS m]
  | .needs l m => ["needs", litS l, litS m]
  | .bars l m => ["bars", litS l, litS m]
  | .same x y => ["same", x, y]
  | .unlike x y => ["unlike", x, y]
def Ru.s (r : Ru) : Str := Txt.join " " r.ws
def headS (xs : List Str) : Str := "switches " ++ Txt.join ", " xs
def textS (xs : List Str) (rs : List Ru) : Str := Txt.join "\n" (headS xs :: rs.map Ru.s)
/-! of which signs they are, and how long -/
theorem app_len {a b : Str} : (a ++ b).length = a.length + b.length := by
  show (a.cps ++ b.cps).size = _
  rw [Array.size_append]
  rfl
theorem joinL_len {a : List Nat} : ∀ (ls : List (List Nat)), (TL.joinL a ls).length ≤ (ls.map List.length).sum + ls.length * a.length
  | [] => Nat.zero_le _
  | [p] => by
    show p.length ≤ _
    simp only [List.map_cons, List.map_nil, List.sum_cons, List.sum_nil]
    omega
  | p :: q :: r => by
    have := joinL_len (a := a) (q :: r)
    show (p ++ (a ++ TL.joinL a (q :: r))).length ≤ _
    rw [List.length_append, List.length_append, List.map_cons, List.sum_cons, List.length_cons (as := q :: r), Nat.add_mul]
    omega
theorem tl_joinT (a : Str) (ys : List Str) : tl (Txt.join a ys) = TL.joinL (tl a) (ys.map tl) := (congrArg tl (TL.join_eq a ys)).trans (TL.tl_join a ys)
theorem join_len {a : Str} {ys : List Str} : (Txt.join a ys).length ≤ (ys.map (·.length)).sum + ys.length * a.length := by
  have h := joinL_len (a := tl a) (ys.map tl)
  rw [← tl_joinT, List.map_map, List.length_map] at h
  exact h
theorem sum_le {n : Nat} : ∀ {ys : List Str}, (∀ y ∈ ys, y.length ≤ n) → (ys.map (·.length)).sum ≤ ys.length * n
  | [], _ => Nat.zero_le _
  | y :: ys, h => by
    have := sum_le (ys := ys) fun z hz => h z (List.mem_cons_of_mem _ hz)
    have h1 := h y (by simp)
    rw [List.map_cons, List.sum_cons, List.length_cons, Nat.add_mul]
    omega
/-- short texts joined -/
theorem joinD_ok {a : Str} {ys : List Str} {n : Nat} (h : ∀ y ∈ ys, y.length ≤ n) (hs : ys.length * (n + a.length) ≤ 100000) : joinD (.str a) (.lst (ys.map D.str)) = some (.str (Txt.join a ys)) ∧ joinD (.str a) (.tup (ys.map D.str)) = some (.str (Txt.join a ys)) ∧ (Txt.join a ys).length ≤ ys.length * (n + a.length) := by
  have h1 := sum_le h
  have h2 := join_len (a := a) (ys := ys)
  rw [Nat.mul_add] at hs ⊢
  refine ⟨?_, ?_, by omega⟩
  all_goals
    show (strsD _).bind _ = _
    rw [strs_map]
    exact if_pos (by omega)
theorem mem_joinL {a : List Nat} {c : Nat} : ∀ (ls : List (List Nat)), c ∈ TL.joinL a ls → c ∈ a ∨ ∃ l ∈ ls, c ∈ l
  | [], h => nomatch h
  | [p], h => .inr ⟨p, by simp, h⟩
  | p :: q :: r, h => by
    have h : c ∈ p ++ (a ++ TL.joinL a (q :: r)) := h
    rcases List.mem_append.mp h with h | h
    · exact .inr ⟨p, by simp, h⟩
    rcases List.mem_append.mp h with h | h
    · exact .inl h
    rcases mem_joinL (q :: r) h with h | ⟨l, hl, h⟩
    · exact .inl h
    · exact .inr ⟨l, List.mem_cons_of_mem _ hl, h⟩
/-- all signs of a text are such -/
def Of (p : Nat → Prop) (x : Str) : Prop := ∀ c ∈ tl x, p c
theorem Of.mono {p q : Nat → Prop} {x : Str} (h : Of p x) (i : ∀ c, p c → q c) : Of q x := fun c hc => i c (h c hc)
theorem of_app {p : Nat → Prop} {a b : Str} (h : Of p a) (k : Of p b) : Of p (a ++ b) := fun c hc => by
  rw [TL.tl_append] at hc
  exact (List.mem_append.mp hc).elim (h c) (k c)
theorem of_join {p : Nat → Prop} {a : Str} {ys : List Str} (h : Of p a) (k : ∀ y ∈ ys, Of p y) : Of p (Txt.join a ys) := fun c hc => by
  rw [tl_joinT] at hc
  rcases mem_joinL _ hc with hc | ⟨l, hl, hc⟩
  · exact h c hc
  · obtain ⟨y, hy, rfl⟩ := List.mem_map.mp hl
    exact k y hy c hc
def ltr (c : Nat) : Prop := 97 ≤ c ∧ c ≤ 122
theorem letters_ltr : ∀ c ∈ letters.cps.toList, 97 ≤ c ∧ c ≤ 122 := by decide +kernel
theorem of_nm {x : Str} (n : Nm x) : Of ltr x := fun c hc => letters_ltr c (n.ls c hc)
def wrd (c : Nat) : Prop := c = 43 ∨ c = 45 ∨ ltr c
theorem ltr_wrd {c : Nat} (h : ltr c) : wrd c := .inr (.inr h)
theorem of_sgn (b : Bool) : Of wrd (sgn b) := fun c hc => by
  rw [sgn_sc] at hc
  have hc : c ∈ [sc b] := hc
  simp only [List.mem_singleton] at hc
  subst hc
  cases b
  · exact .inr (.inl rfl)
  · exact .inl rfl
theorem of_word {w : Str} (h : w ∈ LitW ∨ w ∈ NamW ∨ w = "be") : Of ltr w ∧ w.length ≤ 6 := by
  have q : ∀ w ∈ (["either", "needs", "bars", "same", "unlike", "be"] : List Str), (∀ c ∈ w.cps.toList, 97 ≤ c ∧ c ≤ 122) ∧ w.length ≤ 6 := by decide +kernel
  refine q w ?_
  simp only [LitW, NamW, List.mem_cons, List.not_mem_nil, or_false] at h ⊢
  rcases h with (h | h | h) | (h | h) | h <;> simp [h]
section
variable {xs : List Str} {rs : List Ru}
theorem lit_of {l : Lit} (n : Nm l.1) : Of wrd (litS l) ∧ (litS l).length ≤ 9 := by
  refine ⟨of_app (of_sgn _) ((of_nm n).mono fun c => ltr_wrd), ?_⟩
  have : (sgn l.2).length = 1 := by rw [sgn_sc]; rfl
  have := n.hi
  unfold litS
  rw [app_len]
  omega
theorem ws_of {r : Ru} (hn : ∀ x ∈ xs, Nm x) (ok : r.ok xs) : (∀ w ∈ r.ws, Of wrd w ∧ w.length ≤ 9) ∧ r.ws.length ≤ 3 ∧ r.ws ≠ [] := by
  have word : ∀ {w : Str}, (w ∈ LitW ∨ w ∈ NamW ∨ w = "be") → Of wrd w ∧ w.length ≤ 9 := fun h => ⟨(of_word h).1.mono fun c => ltr_wrd, by have := (of_word h).2; omega⟩
  have name : ∀ {x : Str}, x ∈ xs → Of wrd x ∧ x.length ≤ 9 := fun h => ⟨(of_nm (hn _ h)).mono fun c => ltr_wrd, by have := (hn _ h).hi; omega⟩
  cases r with
  | be l =>
    refine ⟨fun w hw => ?_, by simp [Ru.ws], by simp [Ru.ws]⟩
    simp only [Ru.ws, List.mem_cons, List.not_mem_nil, or_false] at hw
    rcases hw with rfl | rfl
    · exact word (.inr (.inr rfl))
    · exact lit_of (hn _ ok)
  | either l m =>
    refine ⟨fun w hw => ?_, by simp [Ru.ws], by simp [Ru.ws]⟩
    simp only [Ru.ws, List.mem_cons, List.not_mem_nil, or_false] at hw
    rcases hw with rfl | rfl | rfl
    · exact word (.inl (by simp [LitW]))
    · exact lit_of (hn _ ok.1)
    · exact lit_of (hn _ ok.2.1)
  | needs l m =>
    refine ⟨fun w hw => ?_, by simp [Ru.ws], by simp [Ru.ws]⟩
    simp only [Ru.ws, List.mem_cons, List.not_mem_nil, or_false] at hw
    rcases hw with rfl | rfl | rfl
    · exact word (.inl (by simp [LitW]))
    · exact lit_of (hn _ ok.1)
    · exact lit_of (hn _ ok.2.1)
  | bars l m =>
    refine ⟨fun w hw => ?_, by simp [Ru.ws], by simp [Ru.ws]⟩
    simp only [Ru.ws, List.mem_cons, List.not_mem_nil, or_false] at hw
    rcases hw with rfl | rfl | rfl
    · exact word (.inl (by simp [LitW]))
    · exact lit_of (hn _ ok.1)
    · exact lit_of (hn _ ok.2.1)
  | same x y =>
    refine ⟨fun w hw => ?_, by simp [Ru.ws], by simp [Ru.ws]⟩
    simp only [Ru.ws, List.mem_cons, List.not_mem_nil, or_false] at hw
    rcases hw with rfl | rfl | rfl
    · exact word (.inr (.inl (by simp [NamW])))
    · exact name ok.1
    · exact name ok.2.1
  | unlike x y =>
    refine ⟨fun w hw => ?_, by simp [Ru.ws], by simp [Ru.ws]⟩
    simp only [Ru.ws, List.mem_cons, List.not_mem_nil, or_false] at hw
    rcases hw with rfl | rfl | rfl
    · exact word (.inr (.inl (by simp [NamW])))
    · exact name ok.1
    · exact name ok.2.1
def row (c : Nat) : Prop := c = 32 ∨ c = 44 ∨ wrd c
theorem sp1 : tl " " = [32] := by decide +kernel
theorem sp2 : tl ", " = [44, 32] := by decide +kernel
theorem nl1 : tl "\n" = [10] := by decide +kernel
theorem hd1 : ∀ c ∈ tl "switches ", c = 32 ∨ (97 ≤ c ∧ c ≤ 122) := by decide +kernel
theorem s_of {r : Ru} (hn : ∀ x ∈ xs, Nm x) (ok : r.ok xs) : Of row r.s ∧ r.s.length ≤ 30 := by
  obtain ⟨h, l, _⟩ := ws_of hn ok
  refine ⟨of_join (fun c hc => ?_) fun w hw => (h w hw).1.mono fun c hc => .inr (.inr hc), ?_⟩
  · rw [sp1] at hc
    simp only [List.mem_singleton] at hc
    exact .inl hc
  · have s1 : (" " : Str).length = 1 := by decide +kernel
    have := (joinD_ok (a := " ") (n := 9) (fun w hw => (h w hw).2) (by rw [s1]; omega)).2.2
    rw [s1] at this
    unfold Ru.s
    omega
theorem head_of (hn : ∀ x ∈ xs, Nm x) (l : xs.length ≤ 10) : Of row (headS xs) ∧ (headS xs).length ≤ 109 := by
  have s2 : (", " : Str).length = 2 := by decide +kernel
  have s9 : ("switches " : Str).length = 9 := by decide +kernel
  refine ⟨of_app (fun c hc => ?_) (of_join (fun c hc => ?_) fun x hx => (of_nm (hn x hx)).mono fun c hc => .inr (.inr (ltr_wrd hc))), ?_⟩
  · rcases hd1 c hc with h | h
    · exact .inl h
    · exact .inr (.inr (ltr_wrd h))
  · rw [sp2] at hc
    simp only [List.mem_cons, List.not_mem_nil, or_false] at hc
    rcases hc with h | h
    · exact .inr (.inl h)
    · exact .inl h
  · have := (joinD_ok (a := ", ") (n := 8) (fun x hx => (hn x hx).hi) (by rw [s2]; omega)).2.2
    rw [s2] at this
    unfold headS
    rw [app_len, s9]
    omega
theorem row_10 {x : Str} (h : Of row x) : 10 ∉ tl x := fun m => by
  rcases h 10 m with h | h | h | h | ⟨h, _⟩ <;> omega
theorem wrd_32 {x : Str} (h : Of wrd x) : 32 ∉ tl x := fun m => by
  rcases h 32 m with h | h | ⟨h, _⟩ <;> omega
theorem ltr_44 {x : Str} (h : Of ltr x) : 44 ∉ tl x := fun m => by
  have := (h 44 m).1
  omega
theorem rows_of (hn : ∀ x ∈ xs, Nm x) (l : xs.length ≤ 10) (ok : ∀ r ∈ rs, r.ok xs) : ∀ y ∈ headS xs :: rs.map Ru.s, Of row y ∧ y.length ≤ 109 := by
  intro y hy
  rcases List.mem_cons.mp hy with rfl | hy
  · exact head_of hn l
  · obtain ⟨r, hr, rfl⟩ := List.mem_map.mp hy
    exact ⟨(s_of hn (ok r hr)).1, by have := (s_of hn (ok r hr)).2; omega⟩
theorem text_of (hn : ∀ x ∈ xs, Nm x) (l : xs.length ≤ 10) (ok : ∀ r ∈ rs, r.ok xs) (lr : rs.length ≤ 240) : Of (fun c => c < 128) (textS xs rs) ∧ (textS xs rs).length ≤ 26510 ∧ joinD (.str "\n") (.lst ((headS xs :: rs.map Ru.s).map D.str)) = some (.str (textS xs rs)) := by
  have h := rows_of hn l ok
  have s1 : ("\n" : Str).length = 1 := by decide +kernel
  have ln : (headS xs :: rs.map Ru.s).length ≤ 241 := by simp; omega
  obtain ⟨a, _, b⟩ := joinD_ok (a := "\n") (n := 109) (fun y hy => (h y hy).2) (by rw [s1]; omega)
  rw [s1] at b
  refine ⟨of_join (fun c hc => ?_) fun y hy => (h y hy).1.mono fun c hc => ?_, ?_, a⟩
  · rw [nl1] at hc
    simp only [List.mem_singleton] at hc
    subst hc
    decide
  · rcases hc with h | h | h | h | ⟨_, h⟩ <;> omega
  · unfold textS
    omega
/-! cut again -/
theorem starts_left (a y : Str) : Txt.startswith (a ++ y) a = true := by
  have la : (tl a).length = a.length := Array.length_toList
  have s : Builtin.Str.subAt (a ++ y) a 0 = true := by
    rw [StrLaws.subAt_eq, List.drop_zero]
    show ((tl (a ++ y)).take a.length == tl a) = true
    rw [TL.tl_append, ← la, List.take_left]
    exact beq_self_eq_true _
  unfold Txt.startswith
  rw [s, Bool.and_true]
  exact decide_eq_true (by rw [app_len]; omega)
theorem split_ok {a : Str} {s : Nat} {S : List Nat} {ys : List Str} (ea : tl a = s :: S) (hk : a.cps.all (· < 256) = true) (l0 : (a.length == 0) = false) (ne : ys ≠ []) (h : ∀ y ∈ ys, s ∉ tl y) (l : (Txt.join a ys).length ≤ 100000) : splitD (.str (Txt.join a ys)) (.str a) = some (.lst (ys.map D.str)) := by
  show (if _ then some (O.lst ((Txt.split (Txt.join a ys) a).map D.str)) else none) = _
  rw [if_pos ⟨l0, Nat.le_trans (Nat.add_le_add_right l 2) (by decide)⟩, TL.split_join ea hk ne h]
theorem split_text (hn : ∀ x ∈ xs, Nm x) (l : xs.length ≤ 10) (ok : ∀ r ∈ rs, r.ok xs) (lr : rs.length ≤ 240) : splitD (.str (textS xs rs)) (.str "\n") = some (.lst (.str (headS xs) :: rs.map fun r => .str r.s)) := by
  have h := split_ok (a := "\n") nl1 (by decide +kernel) (by decide +kernel) (ys := headS xs :: rs.map Ru.s) (by simp) (fun y hy => row_10 (rows_of hn l ok y hy).1) (Nat.le_trans (text_of hn l ok lr).2.1 (by decide))
  rw [List.map_cons, List.map_map] at h
  exact h
theorem split_row {r : Ru} (hn : ∀ x ∈ xs, Nm x) (ok : r.ok xs) : splitD (.str r.s) (.str " ") = some (.lst (r.ws.map D.str)) := by
  obtain ⟨h, _, ne⟩ := ws_of hn ok
  exact split_ok (a := " ") sp1 (by decide +kernel) (by decide +kernel) ne (fun y hy => wrd_32 (h y hy).1) (Nat.le_trans (s_of hn ok).2 (by decide))
theorem split_names (hn : ∀ x ∈ xs, Nm x) (l0 : 0 < xs.length) (l : xs.length ≤ 10) : splitD (.str (Txt.join ", " xs)) (.str ", ") = some (.lst (xs.map D.str)) := by
  refine split_ok (a := ", ") sp2 (by decide +kernel) (by decide +kernel) (by intro e; rw [e] at l0; exact absurd l0 (by decide)) (fun y hy => ltr_44 (of_nm (hn y hy))) ?_
  have := (head_of hn l).2
  unfold headS at this
  rw [app_len] at this
  omega
theorem starts_text (xs : List Str) (rs : List Ru) : Txt.startswith (textS xs rs) "switches " = true := by
  have e : ∃ z : Str, textS xs rs = "switches " ++ z := by
    cases rs with
    | nil => exact ⟨Txt.join ", " xs, TL.ext_tl (by unfold textS headS; rw [tl_joinT]; rfl)⟩
    | cons r rs =>
      refine ⟨Txt.join ", " xs ++ ("\n" ++ Txt.join "\n" ((r :: rs).map Ru.s)), TL.ext_tl ?_⟩
      unfold textS
      rw [tl_joinT, TL.tl_append, TL.tl_append, TL.tl_append, tl_joinT "\n"]
      show tl (headS xs) ++ (tl "\n" ++ TL.joinL (tl "\n") (((r :: rs).map Ru.s).map tl)) = _
      unfold headS
      rw [TL.tl_append, List.append_assoc]
  obtain ⟨z, e⟩ := e
  rw [e]
  exact starts_left _ z
/-- a piece behind, a piece ahead -/
theorem cutSF {a b : Str} {k : Nat} (ha : a.length = k) (l : (a ++ b).length ≤ 100000) : slL (.str (a ++ b)) (some (k : Int)) none = some (.str b) := by
  show (if (a ++ b).length ≤ sizeLine then some (D.str (cutS (a ++ b) (some (k : Int)) none)) else none) = _
  rw [if_pos (Nat.le_trans l (by decide))]
  have la : (tl a).length = k := (TL.len_tl a).symm.trans ha
  have e : cutS (a ++ b) (some (k : Int)) none = b := by
    refine TL.ext_tl ?_
    show ((tl (a ++ b)).drop (HT.sIx (a ++ b).length 0 (some (k : Int)))).take (HT.sIx (a ++ b).length (a ++ b).length none - HT.sIx (a ++ b).length 0 (some (k : Int))) = _
    rw [HT.sIx_nat, HT.sIx_none, app_len, ha, Nat.min_eq_left (by omega), TL.tl_append, ← la, List.drop_left, Nat.add_sub_cancel_left]
    exact List.take_of_length_le (Nat.le_of_eq (TL.len_tl b).symm)
  rw [e]
theorem cutST {a b : Str} {k : Nat} (ha : a.length = k) (l : (a ++ b).length ≤ 100000) : slL (.str (a ++ b)) none (some (k : Int)) = some (.str a) := by
  show (if (a ++ b).length ≤ sizeLine then some (D.str (cutS (a ++ b) none (some (k : Int)))) else none) = _
  rw [if_pos (Nat.le_trans l (by decide))]
  have la : (tl a).length = k := (TL.len_tl a).symm.trans ha
  have e : cutS (a ++ b) none (some (k : Int)) = a := by
    refine TL.ext_tl ?_
    show ((tl (a ++ b)).drop (HT.sIx (a ++ b).length 0 none)).take (HT.sIx (a ++ b).length (a ++ b).length (some (k : Int)) - HT.sIx (a ++ b).length 0 none) = _
    rw [HT.sIx_nat, HT.sIx_none, app_len, ha, Nat.min_eq_left (by omega), TL.tl_append, Nat.sub_zero, List.drop_zero, ← la, List.take_left]
  rw [e]
end
end Fli
set_option Elab.async false
set_option linter.all false
set_option maxRecDepth 100000
set_option maxHeartbeats 1000000
namespace Fli
open PySem L2
/-! what repr shows of panels' data: not long, and of characters -/
def Gd (n : Nat) (z : Str) : Prop := z.length ≤ n ∧ PyData.strOk z = true
theorem Gd.mono {n m : Nat} {z : Str} (h : Gd n z) (l : n ≤ m) : Gd m z := ⟨Nat.le_trans h.1 l, h.2⟩
theorem gd_app {n m : Nat} {a b : Str} (h : Gd n a) (k : Gd m b) : Gd (n + m) (a ++ b) := by
  refine ⟨by rw [app_len]; have := h.1; have := k.1; omega, ?_⟩
  have h2 := h.2
  have k2 := k.2
  unfold PyData.strOk at h2 k2 ⊢
  show (a.cps ++ b.cps).all _ = true
  rw [Array.all_append, h2, k2]
  rfl
theorem gd_join {n : Nat} : ∀ (ts : List Str), (∀ t ∈ ts, Gd n t) → Gd (ts.length * (n + 2)) (Str.join ", " ts)
  | [], _ => ⟨Nat.zero_le _, by decide +kernel⟩
  | [x], h => (h x (by simp)).mono (by simp)
  | x :: y :: r, h => by
    have ih := gd_join (y :: r) fun t ht => h t (List.mem_cons_of_mem _ ht)
    have sep : Gd 2 ", " := ⟨by decide +kernel, by decide +kernel⟩
    show Gd _ (x ++ ", " ++ Str.join ", " (y :: r))
    refine (gd_app (gd_app (h x (by simp)) sep) ih).mono ?_
    simp only [List.length_cons, Nat.add_mul]
    omega
theorem gd_tuple {n : Nat} {ts : List Str} (h : ∀ t ∈ ts, Gd n t) : Gd (ts.length * (n + 2) + 3) (tupleText ts) := by
  have o : Gd 1 "(" := ⟨by decide +kernel, by decide +kernel⟩
  have c1 : Gd 2 ",)" := ⟨by decide +kernel, by decide +kernel⟩
  have c2 : Gd 2 ")" := ⟨by decide +kernel, by decide +kernel⟩
  have j := gd_join ts h
  unfold tupleText
  refine (gd_app (gd_app o j) (m := 2) ?_).mono (by omega)
  split
  · exact c1
  · exact c2
theorem gd_from {n : Nat} : ∀ (ts : List Str) (k m : Nat) (acc : Str), Gd m acc → (∀ t ∈ ts, Gd n t) → Gd (m + ts.length * (n + 2)) (textFrom k acc ts)
  | [], k, m, acc, ha, _ => ha.mono (by simp)
  | t :: r, k, m, acc, ha, h => by
    have sep : Gd 2 ((if k > 0 then ", " else "" : String) : Str) := by
      split
      · exact ⟨by decide +kernel, by decide +kernel⟩
      · exact ⟨by decide +kernel, by decide +kernel⟩
    have := gd_from r (k + 1) (m + 2 + n) (acc ++ (if k > 0 then ", " else "" : String) ++ t) (gd_app (gd_app ha sep) (h t (by simp))) fun z hz => h z (List.mem_cons_of_mem _ hz)
    refine Gd.mono (show Gd _ (textFrom (k + 1) (acc ++ (if k > 0 then ", " else "" : String) ++ t) r) from this) ?_
    simp only [List.length_cons, Nat.add_mul]
    omega
theorem gd_list {n : Nat} {ts : List Str} (h : ∀ t ∈ ts, Gd n t) : Gd (ts.length * (n + 2) + 2) (listText ts) := by
  have o : Gd 1 "[" := ⟨by decide +kernel, by decide +kernel⟩
  have c : Gd 1 "]" := ⟨by decide +kernel, by decide +kernel⟩
  unfold listText
  exact (gd_app (gd_from ts 0 1 "[" o h) c).mono (by omega)
theorem toPys_map : ∀ {ds : List D} {ps : List PyData}, toPys ds = some ps → ps.length = ds.length ∧ ∀ p ∈ ps, ∃ d ∈ ds, toPy d = some p
  | [], ps, h => by
    unfold toPys at h
    cases h
    exact ⟨rfl, fun p hp => nomatch hp⟩
  | d :: ds, ps, h => by
    unfold toPys at h
    simp only [Option.bind_eq_some_iff, Option.map_eq_some_iff] at h
    obtain ⟨q, e1, qs, e2, rfl⟩ := h
    obtain ⟨l, a⟩ := toPys_map e2
    refine ⟨by simp [l], fun p hp => ?_⟩
    rcases List.mem_cons.mp hp with rfl | hp
    · exact ⟨d, by simp, e1⟩
    · obtain ⟨z, hz, e⟩ := a p hp
      exact ⟨z, List.mem_cons_of_mem _ hz, e⟩
theorem shownAll_eq : ∀ ps : List PyData, PyData.shownAll ps = ps.map PyData.shown
  | [] => by simp only [PyData.shownAll, List.map_nil]
  | p :: ps => by simp only [PyData.shownAll, List.map_cons, shownAll_eq ps]
/-! texts of signs, numbers, truths, as repr shows them -/
theorem strOk_of (s : String) : PyData.strOk (Str.ofString s) = true := by
  unfold PyData.strOk
  rw [Str.ofString_eq_toList, Array.all_eq_true']
  intro c hc
  rw [List.mem_toArray, List.mem_map] at hc
  obtain ⟨a, _, rfl⟩ := hc
  have v := a.valid
  rw [decide_eq_true_eq]
  show a.val.toNat < 0x110000
  rcases v with v | ⟨_, v⟩
  · exact Nat.lt_trans (show a.val.toNat < 0xd800 from v) (by decide)
  · exact v
theorem ok_txt (b : List Bool) : PyData.strOk (txt b) = true := by
  unfold PyData.strOk
  rw [Array.all_eq_true']
  intro c hc
  have hc : c ∈ (txt b).cps.toList := by simpa using hc
  rw [txt_list, List.mem_map] at hc
  obtain ⟨t, _, rfl⟩ := hc
  cases t <;> decide
theorem rep_sign : ∀ q ∈ [34, 39], ∀ t : Bool, ((Builtin.Str.reprChar q (sc t)).all fun c => decide (c < 0x110000)) = true := by decide +kernel
theorem rep_fold {q : Nat} (hq : q ∈ [34, 39]) : ∀ (l : List Bool) (acc : Array Nat), (acc.all fun c => decide (c < 0x110000)) = true → (((l.map sc).foldl (fun out c => out ++ (Builtin.Str.reprChar q c).toArray) acc).all fun c => decide (c < 0x110000)) = true
  | [], acc, h => h
  | t :: l, acc, h => rep_fold hq l _ (by
    rw [Array.all_append, h, List.all_toArray, rep_sign q hq t]
    rfl)
theorem gd_txt {b : List Bool} (h : b.length ≤ 20) : Gd 202 (reprText (txt b)) := by
  refine ⟨?_, ?_⟩
  · have z := StrLaws.reprText_len (txt b) (fun c hc => by
      rw [txt_list, List.mem_map] at hc
      obtain ⟨t, _, rfl⟩ := hc
      cases t <;> decide)
    rw [txt_len] at z
    omega
  · have hq : reprQuote (txt b) ∈ [34, 39] := by unfold reprQuote; split <;> simp
    have q0 : (#[reprQuote (txt b)].all fun c => decide (c < 0x110000)) = true := by
      have : reprQuote (txt b) < 0x110000 := by simp only [List.mem_cons, List.not_mem_nil, or_false] at hq; omega
      simpa using this
    have z := rep_fold hq b #[reprQuote (txt b)] q0
    unfold reprText PyData.strOk
    rw [Array.all_push, ← Array.foldl_toList, txt_list, z]
    have : reprQuote (txt b) < 0x110000 := by simp only [List.mem_cons, List.not_mem_nil, or_false] at hq; omega
    simpa using this
/-- shown, fit to be shown, not long -/
structure Shw (n k : Nat) (d : D) (p : PyData) : Prop where
  py : toPy d = some p
  lay : p.canLay0 = true
  sh : p.showable = true
  dp : p.depth ≤ k
  gd : Gd n p.shown
/-- plain signs -/
theorem rep_plain : ∀ q ∈ [34, 39], ∀ c < 128, ((Builtin.Str.reprChar q c).all fun c => decide (c < 0x110000)) = true := by decide +kernel
theorem rep_foldP {q : Nat} (hq : q ∈ [34, 39]) : ∀ (l : List Nat) (acc : Array Nat), (∀ c ∈ l, c < 128) → (acc.all fun c => decide (c < 0x110000)) = true → ((l.foldl (fun out c => out ++ (Builtin.Str.reprChar q c).toArray) acc).all fun c => decide (c < 0x110000)) = true
  | [], acc, _, h => h
  | t :: l, acc, hl, h => rep_foldP hq l _ (fun c hc => hl c (List.mem_cons_of_mem _ hc)) (by
    rw [Array.all_append, h, List.all_toArray, rep_plain q hq t (hl t (by simp))]
    rfl)
theorem ok_plain {z : Str} (h : Of (fun c => c < 128) z) : PyData.strOk z = true := by
  unfold PyData.strOk
  rw [Array.all_eq_true']
  intro c hc
  have hc : c ∈ TL.tl z := by simpa using hc
  have := h c hc
  rw [decide_eq_true_eq]
  exact Nat.lt_trans this (by decide)
theorem gd_plain {z : Str} {n : Nat} (h : Of (fun c => c < 128) z) (l : z.length ≤ n) : Gd (10 * n + 2) (reprText z) := by
  refine ⟨?_, ?_⟩
  · have z1 := StrLaws.reprText_len z (fun c hc => Nat.lt_trans (h c hc) (by decide))
    omega
  · have hq : reprQuote z ∈ [34, 39] := by unfold reprQuote; split <;> simp
    have q0 : (#[reprQuote z].all fun c => decide (c < 0x110000)) = true := by
      have : reprQuote z < 0x110000 := by simp only [List.mem_cons, List.not_mem_nil, or_false] at hq; omega
      simpa using this
    have z2 := rep_foldP hq (TL.tl z) #[reprQuote z] h q0
    unfold reprText PyData.strOk
    rw [Array.all_push, ← Array.foldl_toList, z2]
    have : reprQuote z < 0x110000 := by simp only [List.mem_cons, List.not_mem_nil, or_false] at hq; omega
    simpa using this
theorem shw_str {z : Str} {n : Nat} (h : Of (fun c => c < 128) z) (l : z.length ≤ n) : Shw (10 * n + 2) 0 (.str z) (.str z) :=
  ⟨by unfold toPy; rfl, by simp only [PyData.canLay0, ok_plain h], by simp only [PyData.showable], by simp only [PyData.depth]; omega, by simp only [PyData.shown]; exact gd_plain h l⟩
theorem shw_txt {b : List Bool} (h : b.length ≤ 20) : Shw 202 0 (.str (txt b)) (.str (txt b)) :=
  ⟨by unfold toPy; rfl, by simp only [PyData.canLay0, ok_txt], by simp only [PyData.showable], by simp only [PyData.depth]; omega, by simp only [PyData.shown]; exact gd_txt h⟩
theorem shw_int {n : Nat} (h : n < 10 ^ 9) : Shw 9 0 (.int (n : Int)) (.int (n : Int)) := by
  refine ⟨by unfold toPy; rfl, by simp only [PyData.canLay0], ?_, by simp only [PyData.depth]; omega, ?_⟩
  · have z : n < 2 ^ 1920 := Nat.lt_trans h (by decide +kernel)
    have : (n : Int).natAbs.log2 < 1920 := by
      rw [Int.natAbs_natCast]
      by_cases e : n = 0
      · subst e; decide
      · exact (Nat.log2_lt e).mpr z
    simp only [PyData.showable, decide_eq_true this]
  · simp only [PyData.shown]
    exact ⟨PyProof.Rows.toString_length_le (by omega) (by decide) (by omega), strOk_of _⟩
theorem shw_bl (b : Bool) : Shw 9 0 (.bl b) (.bool b) := by
  refine ⟨by unfold toPy; rfl, by simp only [PyData.canLay0], by simp only [PyData.showable], by simp only [PyData.depth]; omega, ?_⟩
  simp only [PyData.shown]
  cases b <;> exact ⟨by decide +kernel, by decide +kernel⟩
/-- several of them -/
structure Shs (n k : Nat) (ds : List D) (ps : List PyData) : Prop where
  py : toPys ds = some ps
  lay : PyData.canLayAll0 ps = true
  sh : PyData.showableAll ps = true
  dp : PyData.depthAll ps ≤ k
  gd : ∀ t ∈ ps.map PyData.shown, Gd n t
  ln : ps.length = ds.length
theorem shs_nil {n k : Nat} : Shs n k [] [] := ⟨by unfold toPys; rfl, by simp only [PyData.canLayAll0], by simp only [PyData.showableAll], by simp only [PyData.depthAll]; omega, (fun t h => nomatch h), rfl⟩
theorem shs_cons {n k : Nat} {d : D} {p : PyData} {ds : List D} {ps : List PyData} (h : Shw n k d p) (hs : Shs n k ds ps) : Shs n k (d :: ds) (p :: ps) := by
  refine ⟨by unfold toPys; rw [h.py, hs.py]; rfl, by simp only [PyData.canLayAll0, h.lay, hs.lay, Bool.and_self], by simp only [PyData.showableAll, h.sh, hs.sh, Bool.and_self], by simp only [PyData.depthAll]; have := h.dp; have := hs.dp; omega, ?_, by simp [hs.ln]⟩
  intro t ht
  rw [List.map_cons] at ht
  rcases List.mem_cons.mp ht with rfl | ht
  · exact h.gd
  · exact hs.gd t ht
theorem Shw.up {n m k l : Nat} {d : D} {p : PyData} (h : Shw n k d p) (a : n ≤ m) (b : k ≤ l) : Shw m l d p := ⟨h.py, h.lay, h.sh, Nat.le_trans h.dp b, h.gd.mono a⟩
theorem shs_of {n k : Nat} : ∀ ds : List D, (∀ d ∈ ds, ∃ p, Shw n k d p) → ∃ ps, Shs n k ds ps
  | [], _ => ⟨[], shs_nil⟩
  | d :: ds, h => by
    obtain ⟨p, hp⟩ := h d (by simp)
    obtain ⟨ps, hs⟩ := shs_of ds fun d hd => h d (List.mem_cons_of_mem _ hd)
    exact ⟨p :: ps, shs_cons hp hs⟩
theorem shw_tup {n k : Nat} {ds : List D} {ps : List PyData} (h : Shs n k ds ps) : Shw (ds.length * (n + 2) + 3) (k + 1) (.tup ds) (.tuple ps) := by
  refine ⟨by unfold toPy; rw [h.py]; rfl, by simp only [PyData.canLay0, h.lay], by simp only [PyData.showable, h.sh], by simp only [PyData.depth]; have := h.dp; omega, ?_⟩
  simp only [PyData.shown]
  rw [shownAll_eq]
  have g := gd_tuple h.gd
  rw [List.length_map, h.ln] at g
  exact g
theorem repr_lst {n k : Nat} {ds : List D} {ps : List PyData} (h : Shs n k ds ps) (hk : k ≤ 60) (hl : ds.length * (n + 2) + 2 ≤ 16000000) : ∃ z, reprD [.lst ds] = some (.str z) ∧ PyData.strOk z = true := by
  have g := gd_list h.gd
  rw [List.length_map, h.ln] at g
  have es : PyData.shown (.list ps) = listText (ps.map PyData.shown) := by simp only [PyData.shown]; rw [shownAll_eq]
  have ep : toPy (.lst ds) = some (.list ps) := by unfold toPy; rw [h.py]; rfl
  refine ⟨PyData.shown (.list ps), ?_, by rw [es]; exact g.2⟩
  unfold reprD
  show (toPy _).bind _ = _
  rw [ep]
  refine if_pos ⟨by simp only [PyData.showable, h.sh], PyData.hasDict_of_canLay _ (by simp only [PyData.canLay0, h.lay]), rfl, by simp only [PyData.depth]; have := h.dp; omega, ?_⟩
  rw [es]
  exact Nat.le_trans g.1 (Nat.le_trans hl (by decide))
/-! what a panel holds, as repr shows it -/
theorem row_128 {c : Nat} (h : row c) : c < 128 := by
  rcases h with h | h | h | h | ⟨_, h⟩ <;> omega
section
variable {xs : List Str} {rs : List Ru}
theorem shw_names (hn : ∀ x ∈ xs, Nm x) (l : xs.length ≤ 10) : ∃ p, Shw 100000 2 (.tup (xs.map D.str)) p := by
  obtain ⟨ps, h⟩ := shs_of (n := 82) (k := 0) (xs.map D.str) (by
    intro d hd
    obtain ⟨x, hx, rfl⟩ := List.mem_map.mp hd
    exact ⟨_, shw_str (n := 8) ((of_nm (hn x hx)).mono fun c hc => row_128 (.inr (.inr (ltr_wrd hc)))) (hn x hx).hi⟩)
  refine ⟨_, (shw_tup h).up ?_ (by decide)⟩
  rw [List.length_map]
  omega
theorem shw_lit {l : Lit} (n : Nm l.1) : ∃ p, Shw 200 1 (dL l) p := by
  have a := shw_str (n := 8) ((of_nm n).mono fun c hc => row_128 (.inr (.inr (ltr_wrd hc)))) n.hi
  have b := (shw_str (z := sgn l.2) (n := 1) ((of_sgn _).mono fun c hc => row_128 (.inr (.inr hc))) (by rw [sgn_sc]; exact Nat.le_refl 1)).up (m := 82) (l := 0) (by decide) (by decide)
  exact ⟨_, (shw_tup (shs_cons a (shs_cons b shs_nil))).up (by simp) (by decide)⟩
theorem shw_word {w : Str} (h : w ∈ LitW ∨ w ∈ NamW ∨ w = "be") : Shw 200 1 (.str w) (.str w) := (shw_str (n := 8) ((of_word h).1.mono fun c hc => row_128 (.inr (.inr (ltr_wrd hc)))) (by have := (of_word h).2; omega)).up (by decide) (by decide)
theorem shw_name {x : Str} (n : Nm x) : Shw 200 1 (.str x) (.str x) := (shw_str (n := 8) ((of_nm n).mono fun c hc => row_128 (.inr (.inr (ltr_wrd hc)))) n.hi).up (by decide) (by decide)
theorem shw_ru {r : Ru} (hn : ∀ x ∈ xs, Nm x) (ok : r.ok xs) : ∃ p, Shw 700 2 r.d p := by
  have three : ∀ {a b c : D} {p q u : PyData}, Shw 200 1 a p → Shw 200 1 b q → Shw 200 1 c u → ∃ p, Shw 700 2 (.tup [a, b, c]) p := fun h k m => ⟨_, (shw_tup (shs_cons h (shs_cons k (shs_cons m shs_nil)))).up (by simp) (by decide)⟩
  cases r with
  | be l =>
    obtain ⟨p, h⟩ := shw_lit (hn _ ok)
    exact ⟨_, (shw_tup (shs_cons (shw_word (w := "be") (.inr (.inr rfl))) (shs_cons h shs_nil))).up (by simp) (by decide)⟩
  | either l m =>
    obtain ⟨p, h⟩ := shw_lit (hn _ ok.1)
    obtain ⟨q, k⟩ := shw_lit (hn _ ok.2.1)
    exact three (shw_word (w := "either") (.inl (by simp [LitW]))) h k
  | needs l m =>
    obtain ⟨p, h⟩ := shw_lit (hn _ ok.1)
    obtain ⟨q, k⟩ := shw_lit (hn _ ok.2.1)
    exact three (shw_word (w := "needs") (.inl (by simp [LitW]))) h k
  | bars l m =>
    obtain ⟨p, h⟩ := shw_lit (hn _ ok.1)
    obtain ⟨q, k⟩ := shw_lit (hn _ ok.2.1)
    exact three (shw_word (w := "bars") (.inl (by simp [LitW]))) h k
  | same x y => exact three (shw_word (w := "same") (.inr (.inl (by simp [NamW])))) (shw_name (hn _ ok.1)) (shw_name (hn _ ok.2.1))
  | unlike x y => exact three (shw_word (w := "unlike") (.inr (.inl (by simp [NamW])))) (shw_name (hn _ ok.1)) (shw_name (hn _ ok.2.1))
theorem shw_rules (hn : ∀ x ∈ xs, Nm x) (ok : ∀ r ∈ rs, r.ok xs) (lr : rs.length ≤ 100) : ∃ p, Shw 100000 3 (.tup (rs.map Ru.d)) p := by
  obtain ⟨ps, h⟩ := shs_of (n := 700) (k := 2) (rs.map Ru.d) (by
    intro d hd
    obtain ⟨r, hr, rfl⟩ := List.mem_map.mp hd
    exact shw_ru hn (ok r hr))
  refine ⟨_, (shw_tup h).up ?_ (by decide)⟩
  rw [List.length_map]
  omega
theorem repr_parts (hn : ∀ x ∈ xs, Nm x) (l : xs.length ≤ 10) (ok : ∀ r ∈ rs, r.ok xs) (lr : rs.length ≤ 100) : ∃ z, reprD [.lst [.tup (xs.map D.str), .tup (rs.map Ru.d)]] = some (.str z) ∧ PyData.strOk z = true := by
  obtain ⟨p, h⟩ := shw_names hn l
  obtain ⟨q, k⟩ := shw_rules hn ok lr
  exact repr_lst (shs_cons (h.up (m := 100000) (l := 3) (by decide) (by decide)) (shs_cons k shs_nil)) (by decide) (by simp)
theorem repr_text (hn : ∀ x ∈ xs, Nm x) (l : xs.length ≤ 10) (ok : ∀ r ∈ rs, r.ok xs) (lr : rs.length ≤ 240) : ∃ z, reprD [.lst [.str (textS xs rs), .str (textS xs rs)]] = some (.str z) ∧ PyData.strOk z = true := by
  have t := text_of hn l ok lr
  have h := shw_str t.1 t.2.1
  exact repr_lst (shs_cons h (shs_cons h shs_nil)) (by decide) (by simp)
end
end Fli
set_option Elab.async false
set_option linter.all false
set_option maxRecDepth 100000
set_option maxHeartbeats 1000000
namespace Fli
open PySem L2
local macro_rules | `(tactic| array_mem_dec) => `(tactic| (repeat (first | with_reducible refine v_seq ?_ | with_reducible refine thenO_nx ?_ | with_reducible refine thenO_rd ?_ | with_reducible refine thenO_ro ?_ | with_reducible refine iteB_t ?_ | with_reducible refine iteB_f ?_ | with_reducible refine v_nx ?_ | with_reducible refine v_ret ?_ | with_reducible refine v_retO ?_ | with_reducible refine v_if ?_ | with_reducible refine v_asg ?_ | with_reducible refine v_asgO ?_ | with_reducible refine v_asgF ?_ | with_reducible refine v_drop ?_ | with_reducible refine v_par ?_ | with_reducible refine v_par3 ?_ | with_reducible refine v_put ?_ | with_reducible refine w_bind ?_ | with_reducible refine w_bin ?_ | with_reducible refine w_binO ?_ | with_reducible refine w_ret ?_ | with_reducible refine w_ifM ?_ | with_reducible refine w_andB ?_ | with_reducible refine w_orB ?_ | with_reducible refine w_andV ?_ | with_reducible refine w_orV ?_ | with_reducible refine w_slM ?_ | with_reducible refine w_chM ?_ | ((with_reducible show ∃ k, truD _ = some k ∧ iteB k _ _); refine ⟨_, rfl, ?_⟩) | ((with_reducible refine w_eqS ?_ ?_ ?_); (first | assumption | decide +kernel); (first | assumption | decide +kernel)) | ((with_reducible refine iteB_tt ?_ ?_); decide +kernel) | ((with_reducible refine iteB_ff ?_ ?_); decide +kernel) | ((with_reducible refine iteB_tt ?_ ?_); assumption) | ((with_reducible refine iteB_ff ?_ ?_); assumption) | ((with_reducible show iteB _ _ _); first | refine iteB_tt rfl ?_ | refine iteB_ff rfl ?_) | ((with_reducible show ∃ k, cmpD _ _ _ = some (D.bl k) ∧ iteB k _ _); refine ⟨_, rfl, ?_⟩) | ((with_reducible refine w_mul ?_ ?_); first | exact Or.inl ⟨of_decide_eq_true rfl, of_decide_eq_true rfl⟩ | exact Or.inr ⟨of_decide_eq_true rfl, of_decide_eq_true rfl⟩) | ((with_reducible refine w_mod ?_ ?_); exact of_decide_eq_true rfl) | ((with_reducible refine w_div ?_ ?_); exact ⟨of_decide_eq_true rfl, of_decide_eq_true rfl⟩) | ((with_reducible refine w_pow ?_ ?_); exact ⟨of_decide_eq_true rfl, of_decide_eq_true rfl, of_decide_eq_true rfl⟩) | ((with_reducible refine w_lstM ?_ ?_); exact of_decide_eq_true rfl) | ((with_reducible refine w_tupM ?_ ?_); exact of_decide_eq_true rfl) | with_reducible refine w_mul ?_ ?_ | with_reducible refine w_div ?_ ?_ | with_reducible refine w_mod ?_ ?_ | with_reducible refine w_pow ?_ ?_ | with_reducible refine w_lstM ?_ ?_ | with_reducible refine w_tupM ?_ ?_ | ((with_reducible show Wp (mVar _) _ _); refine w_var rfl ?_) | ((with_reducible show Wp (ixN _ _) _ _); first | refine w_ixO rfl rfl ?_ | refine w_ixD rfl rfl ?_) | ((with_reducible show Wp (lenN _) _ _); refine w_lenO rfl ?_) | ((with_reducible show Wp (frzN _) _ _); first | refine w_frzO rfl ?_ | refine w_frzD rfl ?_) | ((with_reducible show Wp (optM _) _ _); (fail_if_success (with_reducible show Wp (optM (lenC _ _ _ _)) _ _)); (fail_if_success (with_reducible show Wp (optM (truC _ _ _ _)) _ _)); (fail_if_success (with_reducible show Wp (optM (strC _ _ _ _)) _ _)); (fail_if_success (with_reducible show Wp (optM (eqO _ _ _ _ _)) _ _)); (fail_if_success (with_reducible show Wp (optM (neO _ _ _ _ _)) _ _)); (fail_if_success (with_reducible show Wp (optM (reprD _)) _ _)); (fail_if_success (with_reducible show Wp (optM (Option.map D.bl _)) _ _)); (fail_if_success (with_reducible show Wp (optM (ownM _ _ _)) _ _)); (fail_if_success (with_reducible show Wp (optM (methO _ _ _ _ _)) _ _)); (fail_if_success (with_reducible show Wp (optM (eqD _ _ _)) _ _)); refine w_opt rfl ?_))))
theorem len_le {n : Nat} (h : n ≤ 100000) : n ≤ sizeLine := Nat.le_trans h (by decide)
theorem w_mk {s : S} {ms : M (List D)} {g : List D → List D} {Q : O → S → Prop} {xs : List Str} {ds : List D} (p : Pan xs ds) (hm : Wp ms s fun ys s1 => g ys = [.tup (xs.map D.str), .tup ds] ∧ s1 = s) (q : Q (.obj "Panel" (pan xs ds)) s) : Wp (mkO 3 m_Panel___init__ "Panel" ms g) s Q := by
  refine w_mkO (hm.mono fun ys s1 ⟨e1, e2⟩ => ?_)
  subst e2
  rw [e1]
  exact ⟨_, init_ok p, q⟩
theorem w_mkL {i n : Nat} {body : MS} {c : Str} {ms : M (List D)} {dd : List D} {s : S} {Q : O → S → Prop} (e : s[i]? = some (some (.d (.cls c)))) (h : Wp (mkO n body c ms fun xs => xs ++ dd) s Q) : Wp (mkL i n body c ms dd) s Q := by
  refine w_bind (w_var e ?_)
  show Wp (if c = c then _ else _) s Q
  rw [if_pos rfl]
  exact h
section
variable {xs : List Str} {rs : List Ru}
theorem addSt {a b : Str} (h : a.length + b.length ≤ 100000) : addL (.str a) (.str b) = some (.str (a ++ b)) := if_pos (Nat.le_trans h (by decide))
theorem sgn_len (b : Bool) : (sgn b).length = 1 := by rw [sgn_sc]; rfl
theorem rl_ok {l : Lit} (n : Nm l.1) : ownM 1 m_read_literal [.str (litS l)] = some (dL l) := by
  have hl : (sgn l.2 ++ l.1).length ≤ 100000 := Nat.le_trans (lit_of n).2 (by decide)
  have c1 : slL (.str (sgn l.2 ++ l.1)) (some 1) none = some (.str l.1) := cutSF (k := 1) (sgn_len _) hl
  have c2 : slL (.str (sgn l.2 ++ l.1)) none (some 1) = some (.str (sgn l.2)) := cutST (k := 1) (sgn_len _) hl
  refine own_of ?_
  show WS m_read_literal (startS 1 [.d (.str (sgn l.2 ++ l.1))]) _
  unfold m_read_literal
  array_mem_dec
  refine w_opt c1 ?_
  array_mem_dec
  refine w_opt c2 ?_
  array_mem_dec
  exact ⟨_, rfl⟩
theorem lt_ok {l : Lit} (n : Nm l.1) : ownM 3 m_literal_text [dL l] = some (.str (litS l)) := by
  have a : addL (.str (sgn l.2)) (.str l.1) = some (.str (litS l)) := addSt (by have := n.hi; have := sgn_len l.2; omega)
  refine own_of ?_
  show WS m_literal_text (startS 3 [.d (.tup [.str l.1, .str (sgn l.2)])]) _
  unfold m_literal_text
  array_mem_dec
  refine ⟨_, rfl, ?_⟩
  array_mem_dec
  refine w_opt a ?_
  array_mem_dec
  exact ⟨_, rfl⟩
theorem join_row {r : Ru} (hn : ∀ x ∈ xs, Nm x) (ok : r.ok xs) : joinD (.str " ") (.lst (r.ws.map D.str)) = some (.str r.s) ∧ joinD (.str " ") (.tup (r.ws.map D.str)) = some (.str r.s) := by
  obtain ⟨h, l, _⟩ := ws_of hn ok
  have s1 : (" " : Str).length = 1 := by decide +kernel
  have z := joinD_ok (a := " ") (n := 9) (fun w hw => (h w hw).2) (by rw [s1]; omega)
  exact ⟨z.1, z.2.1⟩
theorem addLs {as bs : List D} (h : as.length + bs.length ≤ 100000) : addL (.lst as) (.lst bs) = some (.lst (as ++ bs)) := by
  show (if _ then _ else none) = _
  rw [if_pos (len_le h)]
theorem at0 {d : D} {ds : List D} : atD (.tup (d :: ds)) (.int 0) = some d := by
  show atI (d :: ds) 0 = some d
  unfold atI L2.ixN
  rw [if_pos (by omega), if_pos (by simp)]
  rfl
/-- a rule of literals, shown -/
theorem rt_lit {w : Str} {ls : List Lit} {z : Str} (hw : w ∈ LitW ∨ w = "be") (hl : ls.length ≤ 2) (hn : ∀ l ∈ ls, Nm l.1) (j : joinD (.str " ") (.lst ((w :: ls.map litS).map D.str)) = some (.str z)) : ownM 3 m_rule_text [.tup (.str w :: ls.map dL)] = some (.str z) := by
  have nn : inD false (.str w) k_NAME_WORDS = some (.bl false) := by
    have q : ∀ w ∈ (["either", "needs", "bars", "be"] : List Str), ¬ w ∈ NamW := by decide +kernel
    have n : ¬ w ∈ NamW := by
      refine q w ?_
      simp only [LitW, List.mem_cons, List.not_mem_nil, or_false] at hw ⊢
      rcases hw with (h | h | h) | h <;> simp [h]
    show some (D.bl (false ^^ inV (.str w) (NamW.map V.str))) = _
    rw [inV_map, decide_eq_false n]
    rfl
  have c1 : cutD (.str w :: ls.map dL) (some 1) none = ls.map dL := by
    show cutD (.str w :: ls.map dL) (some ((1 : Nat) : Int)) none = ls.map dL
    unfold cutD
    rw [HT.sIx_nat, HT.sIx_none, List.length_cons, Nat.min_eq_left (by omega)]
    show (ls.map dL).take ((ls.map dL).length + 1 - 1) = _
    rw [Nat.add_sub_cancel, List.take_length]
  refine own_of ?_
  unfold m_rule_text
  refine v_seq (v_asg (w_bin (w_var rfl (w_ret (w_opt (at0 (d := .str w) (ds := ls.map dL)) ?_)))))
  refine thenO_nx (v_seq (v_if (w_bind (w_bin (w_var rfl (w_ret (w_opt nn (w_opt rfl (iteB_f (v_nx ?_))))))))))
  refine thenO_nx (v_seq (v_ret ?_))
  refine w_bin (w_ret (w_bin ?_))
  array_mem_dec
  refine w_cplL (w_slM (w_var rfl ?_))
  array_mem_dec
  refine ⟨ls.map dL, by rw [c1]; rfl, ?_⟩
  refine w_compF ls (e := dL) (p := fun _ => true) (f := fun l => .str (litS l)) rfl rfl (len_le (by omega)) ?_ ?_
  · intro l hl
    refine ⟨_, rfl, ?_⟩
    array_mem_dec
    refine ⟨rfl, ?_⟩
    array_mem_dec
    refine w_own (lt_ok (hn l hl)) ?_
    array_mem_dec
    exact ⟨rfl, rfl, rfl⟩
  rw [List.filter_eq_self.mpr fun _ _ => rfl]
  array_mem_dec
  refine w_opt (addLs (by simp; omega)) ?_
  refine w_opt (show joinD (.str " ") (.lst ([.str w] ++ ls.map fun l => .str (litS l))) = some (.str z) by rw [← j, List.map_cons, List.map_map]; rfl) ?_
  array_mem_dec
  exact ⟨_, rfl⟩
theorem rt_nam {w x y z : Str} (hw : w ∈ NamW) (j : joinD (.str " ") (.tup ([w, x, y].map D.str)) = some (.str z)) : ownM 3 m_rule_text [.tup [.str w, .str x, .str y]] = some (.str z) := by
  have nn : inD false (.str w) k_NAME_WORDS = some (.bl true) := by
    show some (D.bl (false ^^ inV (.str w) (NamW.map V.str))) = _
    rw [inV_map, decide_eq_true hw]
    rfl
  refine own_of ?_
  unfold m_rule_text
  refine v_seq (v_asg (w_bin (w_var rfl (w_ret (w_opt (show atD (.tup [.str w, .str x, .str y]) (.int 0) = some (.str w) from rfl) ?_)))))
  refine thenO_nx (v_seq (v_if (w_bind (w_bin (w_var rfl (w_ret (w_opt nn (w_opt rfl (iteB_t ?_)))))))))
  refine v_seq (v_ret (w_bin (w_ret (w_var rfl (w_opt j ?_)))))
  exact ⟨_, rfl⟩
theorem rt_ok {r : Ru} (hn : ∀ x ∈ xs, Nm x) (ok : r.ok xs) : ownM 3 m_rule_text [r.d] = some (.str r.s) := by
  have j := join_row hn ok
  cases r with
  | be l => exact rt_lit (ls := [l]) (.inr rfl) (by simp) (by simpa using hn _ ok) j.1
  | either l m => exact rt_lit (ls := [l, m]) (.inl (by simp [LitW])) (by simp) (by simpa using ⟨hn _ ok.1, hn _ ok.2.1⟩) j.1
  | needs l m => exact rt_lit (ls := [l, m]) (.inl (by simp [LitW])) (by simp) (by simpa using ⟨hn _ ok.1, hn _ ok.2.1⟩) j.1
  | bars l m => exact rt_lit (ls := [l, m]) (.inl (by simp [LitW])) (by simp) (by simpa using ⟨hn _ ok.1, hn _ ok.2.1⟩) j.1
  | same x y => exact rt_nam (by simp [NamW]) j.2
  | unlike x y => exact rt_nam (by simp [NamW]) j.2
end
end Fli
set_option Elab.async false
set_option linter.all false
set_option maxRecDepth 100000
set_option maxHeartbeats 1000000
namespace Fli
open PySem L2
local macro_rules | `(tactic| array_mem_dec) => `(tactic| (repeat (first | with_reducible refine v_seq ?_ | with_reducible refine thenO_nx ?_ | with_reducible refine thenO_rd ?_ | with_reducible refine thenO_ro ?_ | with_reducible refine iteB_t ?_ | with_reducible refine iteB_f ?_ | with_reducible refine v_nx ?_ | with_reducible refine v_ret ?_ | with_reducible refine v_retO ?_ | with_reducible refine v_if ?_ | with_reducible refine v_asg ?_ | with_reducible refine v_asgO ?_ | with_reducible refine v_asgF ?_ | with_reducible refine v_drop ?_ | with_reducible refine v_par ?_ | with_reducible refine v_par3 ?_ | with_reducible refine v_put ?_ | with_reducible refine w_bind ?_ | with_reducible refine w_bin ?_ | with_reducible refine w_binO ?_ | with_reducible refine w_ret ?_ | with_reducible refine w_ifM ?_ | with_reducible refine w_andB ?_ | with_reducible refine w_orB ?_ | with_reducible refine w_andV ?_ | with_reducible refine w_orV ?_ | with_reducible refine w_slM ?_ | with_reducible refine w_chM ?_ | ((with_reducible show ∃ k, truD _ = some k ∧ iteB k _ _); refine ⟨_, rfl, ?_⟩) | ((with_reducible refine w_eqS ?_ ?_ ?_); (first | assumption | decide +kernel); (first | assumption | decide +kernel)) | ((with_reducible refine iteB_tt ?_ ?_); decide +kernel) | ((with_reducible refine iteB_ff ?_ ?_); decide +kernel) | ((with_reducible refine iteB_tt ?_ ?_); assumption) | ((with_reducible refine iteB_ff ?_ ?_); assumption) | ((with_reducible show iteB _ _ _); first | refine iteB_tt rfl ?_ | refine iteB_ff rfl ?_) | ((with_reducible show ∃ k, cmpD _ _ _ = some (D.bl k) ∧ iteB k _ _); refine ⟨_, rfl, ?_⟩) | ((with_reducible refine w_mul ?_ ?_); first | exact Or.inl ⟨of_decide_eq_true rfl, of_decide_eq_true rfl⟩ | exact Or.inr ⟨of_decide_eq_true rfl, of_decide_eq_true rfl⟩) | ((with_reducible refine w_mod ?_ ?_); exact of_decide_eq_true rfl) | ((with_reducible refine w_div ?_ ?_); exact ⟨of_decide_eq_true rfl, of_decide_eq_true rfl⟩) | ((with_reducible refine w_pow ?_ ?_); exact ⟨of_decide_eq_true rfl, of_decide_eq_true rfl, of_decide_eq_true rfl⟩) | ((with_reducible refine w_lstM ?_ ?_); exact of_decide_eq_true rfl) | ((with_reducible refine w_tupM ?_ ?_); exact of_decide_eq_true rfl) | with_reducible refine w_mul ?_ ?_ | with_reducible refine w_div ?_ ?_ | with_reducible refine w_mod ?_ ?_ | with_reducible refine w_pow ?_ ?_ | with_reducible refine w_lstM ?_ ?_ | with_reducible refine w_tupM ?_ ?_ | ((with_reducible show Wp (mVar _) _ _); refine w_var rfl ?_) | ((with_reducible show Wp (ixN _ _) _ _); first | refine w_ixO rfl rfl ?_ | refine w_ixD rfl rfl ?_) | ((with_reducible show Wp (lenN _) _ _); refine w_lenO rfl ?_) | ((with_reducible show Wp (frzN _) _ _); first | refine w_frzO rfl ?_ | refine w_frzD rfl ?_) | ((with_reducible show Wp (optM _) _ _); (fail_if_success (with_reducible show Wp (optM (lenC _ _ _ _)) _ _)); (fail_if_success (with_reducible show Wp (optM (truC _ _ _ _)) _ _)); (fail_if_success (with_reducible show Wp (optM (strC _ _ _ _)) _ _)); (fail_if_success (with_reducible show Wp (optM (eqO _ _ _ _ _)) _ _)); (fail_if_success (with_reducible show Wp (optM (neO _ _ _ _ _)) _ _)); (fail_if_success (with_reducible show Wp (optM (reprD _)) _ _)); (fail_if_success (with_reducible show Wp (optM (Option.map D.bl _)) _ _)); (fail_if_success (with_reducible show Wp (optM (ownM _ _ _)) _ _)); (fail_if_success (with_reducible show Wp (optM (methO _ _ _ _ _)) _ _)); (fail_if_success (with_reducible show Wp (optM (eqD _ _ _)) _ _)); refine w_opt rfl ?_))))
section
variable {xs : List Str} {rs : List Ru}
theorem in_lit {w : Str} (hw : w ∈ LitW ∨ w = "be") : inD false (.str w) k_NAME_WORDS = some (.bl false) := by
  have q : ∀ w ∈ (["either", "needs", "bars", "be"] : List Str), ¬ w ∈ NamW := by decide +kernel
  have n : ¬ w ∈ NamW := by
    refine q w ?_
    simp only [LitW, List.mem_cons, List.not_mem_nil, or_false] at hw ⊢
    rcases hw with (h | h | h) | h <;> simp [h]
  show some (D.bl (false ^^ inV (.str w) (NamW.map V.str))) = _
  rw [inV_map, decide_eq_false n]
  rfl
theorem in_nam {w : Str} (hw : w ∈ NamW) : inD false (.str w) k_NAME_WORDS = some (.bl true) := by
  show some (D.bl (false ^^ inV (.str w) (NamW.map V.str))) = _
  rw [inV_map, decide_eq_true hw]
  rfl
theorem rr_lit {w : Str} {ls : List Lit} {z : Str} (hw : w ∈ LitW ∨ w = "be") (hl : ls.length ≤ 2) (hn : ∀ l ∈ ls, Nm l.1) (j : splitD (.str z) (.str " ") = some (.lst ((w :: ls.map litS).map D.str))) : ownM 5 m_read_rule [.str z] = some (.tup (.str w :: ls.map dL)) := by
  refine own_of ?_
  unfold m_read_rule
  refine v_seq (v_asgF (w_bind (w_binO (w_var rfl (w_ret (w_opt j (w_ret ?_)))))))
  refine ⟨_, rfl, ?_⟩
  refine thenO_nx (v_seq (v_if (w_bind (w_bin (w_var rfl (w_ret (w_opt (in_lit hw) (w_opt rfl (iteB_f (v_nx ?_))))))))))
  refine thenO_nx (v_seq (v_asgO (w_cplL (w_var rfl ?_))))
  refine ⟨ls.map fun l => .str (litS l), by rw [List.map_map]; rfl, ?_⟩
  refine w_compF ls (e := fun l => .str (litS l)) (p := fun _ => true) (f := dL) rfl rfl (len_le (by omega)) ?_ ?_
  · intro l hl
    refine ⟨_, rfl, ?_⟩
    array_mem_dec
    refine ⟨rfl, ?_⟩
    array_mem_dec
    refine w_own (rl_ok (hn l hl)) ?_
    array_mem_dec
    exact ⟨rfl, rfl, rfl⟩
  rw [List.filter_eq_self.mpr fun _ _ => rfl]
  have e : (D.str w :: (ls.map dL ++ [])) = .str w :: ls.map dL := by rw [List.append_nil]
  refine thenO_nx (v_seq (v_ret (w_bind (w_bind (w_var rfl (w_bind (w_bind (w_frzO rfl (w_bind (w_opt rfl (w_bind (w_ret (w_ret (w_ret ?_))))))))))))))
  rw [e]
  refine w_tupM (len_le (by simp; omega)) ?_
  exact ⟨_, rfl⟩
theorem rr_nam {w x y z : Str} (hw : w ∈ NamW) (j : splitD (.str z) (.str " ") = some (.lst ([w, x, y].map D.str))) : ownM 5 m_read_rule [.str z] = some (.tup [.str w, .str x, .str y]) := by
  refine own_of ?_
  unfold m_read_rule
  refine v_seq (v_asgF (w_bind (w_binO (w_var rfl (w_ret (w_opt j (w_ret ?_)))))))
  refine ⟨_, rfl, ?_⟩
  refine thenO_nx (v_seq (v_if (w_bind (w_bin (w_var rfl (w_ret (w_opt (in_nam hw) (w_opt rfl (iteB_t ?_)))))))))
  array_mem_dec
  exact ⟨_, rfl⟩
theorem rr_ok {r : Ru} (hn : ∀ x ∈ xs, Nm x) (ok : r.ok xs) : ownM 5 m_read_rule [.str r.s] = some r.d := by
  have j := split_row hn ok
  cases r with
  | be l => exact rr_lit (ls := [l]) (.inr rfl) (by simp) (by simpa using hn _ ok) j
  | either l m => exact rr_lit (ls := [l, m]) (.inl (by simp [LitW])) (by simp) (by simpa using ⟨hn _ ok.1, hn _ ok.2.1⟩) j
  | needs l m => exact rr_lit (ls := [l, m]) (.inl (by simp [LitW])) (by simp) (by simpa using ⟨hn _ ok.1, hn _ ok.2.1⟩) j
  | bars l m => exact rr_lit (ls := [l, m]) (.inl (by simp [LitW])) (by simp) (by simpa using ⟨hn _ ok.1, hn _ ok.2.1⟩) j
  | same x y => exact rr_nam (by simp [NamW]) j
  | unlike x y => exact rr_nam (by simp [NamW]) j
/-- a panel, and how it is meant -/
structure Tel (xs : List Str) (rs : List Ru) : Prop where
  p : Pan xs (rs.map Ru.d)
  ok : ∀ r ∈ rs, r.ok xs
  lr : rs.length ≤ 100
theorem read_ok (t : Tel xs rs) : ownM 7 m_Panel_read [.cls "Panel", .str (textS xs rs)] = some (panD xs (rs.map Ru.d)) := by
  have hn := t.p.nm
  have lx := t.p.l1
  have lr : rs.length ≤ 240 := Nat.le_trans t.lr (by decide)
  have hd := head_of hn lx
  have e9 : ("switches " : Str).length = 9 := by decide +kernel
  have c1 : slL (.str (headS xs)) (some 9) none = some (.str (Txt.join ", " xs)) := cutSF (k := 9) e9 (Nat.le_trans hd.2 (by decide))
  have sw : swD (.str (textS xs rs)) k_HEAD = some (.bl true) := by
    show some (D.bl (Txt.startswith (textS xs rs) "switches ")) = _
    rw [starts_text]
  refine own_of ?_
  unfold m_Panel_read
  refine v_seq (v_if (w_orB (w_bind (w_bind (w_bind (w_var rfl (w_opt (show isB "str" (.str (textS xs rs)) = some (.bl true) from rfl) ?_)))))))
  refine w_opt rfl (w_ret (iteB_f ?_))
  refine w_bind (w_bind (w_bin (w_var rfl (w_ret (w_opt sw (w_opt rfl (w_ret (iteB_f ?_))))))))
  refine v_nx (thenO_nx (v_seq (v_asgF (w_bind (w_binO (w_var rfl (w_ret (w_opt (split_text hn lx t.ok lr) (w_ret ?_)))))))))
  refine ⟨_, rfl, ?_⟩
  refine thenO_nx (v_seq (v_asg (w_bind (w_bind (w_bind (w_binO (w_slM (w_var rfl ?_))))))))
  array_mem_dec
  refine w_opt c1 (w_ret (w_opt (split_names hn t.p.l0 lx) (w_ret ?_)))
  array_mem_dec
  refine w_cplL (w_var rfl ⟨_, rfl, ?_⟩)
  refine w_compF rs (e := fun r => .str r.s) (p := fun _ => true) (f := Ru.d) rfl rfl (len_le (by omega)) ?_ ?_
  · intro r hr
    refine ⟨_, rfl, ?_⟩
    array_mem_dec
    refine ⟨rfl, ?_⟩
    array_mem_dec
    refine w_own (rr_ok hn (t.ok r hr)) ?_
    array_mem_dec
    exact ⟨rfl, rfl, rfl⟩
  rw [List.filter_eq_self.mpr fun _ _ => rfl]
  array_mem_dec
  refine w_mkL rfl (w_mk t.p ?_ ?_)
  · array_mem_dec
    exact ⟨rfl, rfl⟩
  array_mem_dec
  exact ⟨_, rfl⟩
end
end Fli
set_option Elab.async false
set_option linter.all false
set_option maxRecDepth 100000
set_option maxHeartbeats 1000000
namespace Fli
open PySem L2
local macro_rules | `(tactic| array_mem_dec) => `(tactic| (repeat (first | with_reducible refine v_seq ?_ | with_reducible refine thenO_nx ?_ | with_reducible refine thenO_rd ?_ | with_reducible refine thenO_ro ?_ | with_reducible refine iteB_t ?_ | with_reducible refine iteB_f ?_ | with_reducible refine v_nx ?_ | with_reducible refine v_ret ?_ | with_reducible refine v_retO ?_ | with_reducible refine v_if ?_ | with_reducible refine v_asg ?_ | with_reducible refine v_asgO ?_ | with_reducible refine v_asgF ?_ | with_reducible refine v_drop ?_ | with_reducible refine v_par ?_ | with_reducible refine v_par3 ?_ | with_reducible refine v_put ?_ | with_reducible refine w_bind ?_ | with_reducible refine w_bin ?_ | with_reducible refine w_binO ?_ | with_reducible refine w_ret ?_ | with_reducible refine w_ifM ?_ | with_reducible refine w_andB ?_ | with_reducible refine w_orB ?_ | with_reducible refine w_andV ?_ | with_reducible refine w_orV ?_ | with_reducible refine w_slM ?_ | with_reducible refine w_chM ?_ | ((with_reducible show ∃ k, truD _ = some k ∧ iteB k _ _); refine ⟨_, rfl, ?_⟩) | ((with_reducible refine w_eqS ?_ ?_ ?_); (first | assumption | decide +kernel); (first | assumption | decide +kernel)) | ((with_reducible refine iteB_tt ?_ ?_); decide +kernel) | ((with_reducible refine iteB_ff ?_ ?_); decide +kernel) | ((with_reducible refine iteB_tt ?_ ?_); assumption) | ((with_reducible refine iteB_ff ?_ ?_); assumption) | ((with_reducible show iteB _ _ _); first | refine iteB_tt rfl ?_ | refine iteB_ff rfl ?_) | ((with_reducible show ∃ k, cmpD _ _ _ = some (D.bl k) ∧ iteB k _ _); refine ⟨_, rfl, ?_⟩) | ((with_reducible refine w_mul ?_ ?_); first | exact Or.inl ⟨of_decide_eq_true rfl, of_decide_eq_true rfl⟩ | exact Or.inr ⟨of_decide_eq_true rfl, of_decide_eq_true rfl⟩) | ((with_reducible refine w_mod ?_ ?_); exact of_decide_eq_true rfl) | ((with_reducible refine w_div ?_ ?_); exact ⟨of_decide_eq_true rfl, of_decide_eq_true rfl⟩) | ((with_reducible refine w_pow ?_ ?_); exact ⟨of_decide_eq_true rfl, of_decide_eq_true rfl, of_decide_eq_true rfl⟩) | ((with_reducible refine w_lstM ?_ ?_); exact of_decide_eq_true rfl) | ((with_reducible refine w_tupM ?_ ?_); exact of_decide_eq_true rfl) | with_reducible refine w_mul ?_ ?_ | with_reducible refine w_div ?_ ?_ | with_reducible refine w_mod ?_ ?_ | with_reducible refine w_pow ?_ ?_ | with_reducible refine w_lstM ?_ ?_ | with_reducible refine w_tupM ?_ ?_ | ((with_reducible show Wp (mVar _) _ _); refine w_var rfl ?_) | ((with_reducible show Wp (ixN _ _) _ _); first | refine w_ixO rfl rfl ?_ | refine w_ixD rfl rfl ?_) | ((with_reducible show Wp (lenN _) _ _); refine w_lenO rfl ?_) | ((with_reducible show Wp (frzN _) _ _); first | refine w_frzO rfl ?_ | refine w_frzD rfl ?_) | ((with_reducible show Wp (optM _) _ _); (fail_if_success (with_reducible show Wp (optM (lenC _ _ _ _)) _ _)); (fail_if_success (with_reducible show Wp (optM (truC _ _ _ _)) _ _)); (fail_if_success (with_reducible show Wp (optM (strC _ _ _ _)) _ _)); (fail_if_success (with_reducible show Wp (optM (eqO _ _ _ _ _)) _ _)); (fail_if_success (with_reducible show Wp (optM (neO _ _ _ _ _)) _ _)); (fail_if_success (with_reducible show Wp (optM (reprD _)) _ _)); (fail_if_success (with_reducible show Wp (optM (Option.map D.bl _)) _ _)); (fail_if_success (with_reducible show Wp (optM (ownM _ _ _)) _ _)); (fail_if_success (with_reducible show Wp (optM (methO _ _ _ _ _)) _ _)); (fail_if_success (with_reducible show Wp (optM (eqD _ _ _)) _ _)); refine w_opt rfl ?_))))
section
variable {xs : List Str} {rs : List Ru}
theorem join_names (hn : ∀ x ∈ xs, Nm x) (l : xs.length ≤ 10) : joinD (.str ", ") (.tup (xs.map D.str)) = some (.str (Txt.join ", " xs)) := by
  have s2 : (", " : Str).length = 2 := by decide +kernel
  exact (joinD_ok (a := ", ") (n := 8) (fun x hx => (hn x hx).hi) (by rw [s2]; omega)).2.1
theorem add_head (hn : ∀ x ∈ xs, Nm x) (l : xs.length ≤ 10) : addL (.str "switches ") (.str (Txt.join ", " xs)) = some (.str (headS xs)) := by
  have h := (head_of hn l).2
  unfold headS at h
  rw [app_len] at h
  exact addSt (by omega)
theorem rows_eq : (D.str (headS xs) :: rs.map fun r => D.str r.s) = (headS xs :: rs.map Ru.s).map D.str := by
  rw [List.map_cons, List.map_map]
  rfl
theorem fld1 {ds : List D} : fldD "Panel" "switches" (panD xs ds) = some (.tup (xs.map D.str)) := by rfl
theorem fld2 {ds : List D} : fldD "Panel" "rules" (panD xs ds) = some (.tup ds) := by rfl
theorem text_ok (t : Tel xs rs) : ownM 3 m_Panel_text [panD xs (rs.map Ru.d)] = some (.str (textS xs rs)) := by
  have hn := t.p.nm
  have lx := t.p.l1
  have lr : rs.length ≤ 240 := Nat.le_trans t.lr (by decide)
  refine own_of ?_
  unfold m_Panel_text
  refine v_seq (v_asg (w_bin (w_bind (w_bind (w_bind (w_bin (w_ret (w_bin (w_ret (w_bind (w_var rfl (w_opt fld1 (w_opt (join_names hn lx) ?_)))))))))))))
  refine w_opt (add_head hn lx) ?_
  array_mem_dec
  refine w_cplL (w_bind (w_var rfl (w_opt fld2 ⟨_, rfl, ?_⟩)))
  refine w_compF rs (e := Ru.d) (p := fun _ => true) (f := fun r => .str r.s) rfl rfl (len_le (by omega)) ?_ ?_
  · intro r hr
    refine ⟨_, rfl, ?_⟩
    array_mem_dec
    refine ⟨rfl, ?_⟩
    array_mem_dec
    refine w_own (rt_ok hn (t.ok r hr)) ?_
    array_mem_dec
    exact ⟨rfl, rfl, rfl⟩
  rw [List.filter_eq_self.mpr fun _ _ => rfl]
  array_mem_dec
  refine w_opt (addLs (by simp; omega)) ?_
  array_mem_dec
  refine w_opt (show joinD (.str "\n") (.lst ([.str (headS xs)] ++ rs.map fun r => .str r.s)) = some (.str (textS xs rs)) by rw [← (text_of hn lx t.ok lr).2.2, ← rows_eq]; rfl) ?_
  exact ⟨_, rfl⟩
theorem no_text {ds : List D} : ((pan xs ds).lookup ("text" : Str)).isNone = true := by
  have a : (("text" : Str) == "switches") = false := by decide +kernel
  have b : (("text" : Str) == "rules") = false := by decide +kernel
  simp [List.lookup, a, b]
theorem meth_ok (t : Tel xs rs) : methO 3 m_Panel_text "Panel" "text" (panD xs (rs.map Ru.d)) = some (.str (textS xs rs)) := by
  unfold methO
  rw [ins_pan, Option.bind_some]
  show (if ((pan xs (rs.map Ru.d)).lookup ("text" : Str)).isNone = true then ownM 3 m_Panel_text [panD xs (rs.map Ru.d)] else none) = _
  rw [if_pos no_text, text_ok t]
/-! the law's own -/
/-- unlike panels have unlike texts -/
theorem text_inj {ys : List Str} {qs : List Ru} (t : Tel xs rs) (u : Tel ys qs) : textS xs rs = textS ys qs ↔ xs = ys ∧ rs.map Ru.d = qs.map Ru.d := by
  constructor
  · intro h
    have a := read_ok t
    rw [h, read_ok u] at a
    have a := Option.some.inj a
    have b : pan ys (qs.map Ru.d) = pan xs (rs.map Ru.d) := (D.ins.inj a).2
    have c : ys.map D.str = xs.map D.str ∧ qs.map Ru.d = rs.map Ru.d := by simpa [pan] using b
    exact ⟨((List.map_inj_right (fun a b h => D.str.inj h)).mp c.1).symm, c.2.symm⟩
  · rintro ⟨rfl, h⟩
    have a := text_ok t
    rw [h, text_ok u] at a
    exact (D.str.inj (Option.some.inj a)).symm
end
end Fli
set_option Elab.async false
set_option linter.all false
set_option maxRecDepth 100000
set_option maxHeartbeats 1000000
namespace Fli
open PySem L2
local macro_rules | `(tactic| array_mem_dec) => `(tactic| (repeat (first | with_reducible refine v_seq ?_ | with_reducible refine thenO_nx ?_ | with_reducible refine thenO_rd ?_ | with_reducible refine thenO_ro ?_ | with_reducible refine iteB_t ?_ | with_reducible refine iteB_f ?_ | with_reducible refine v_nx ?_ | with_reducible refine v_ret ?_ | with_reducible refine v_retO ?_ | with_reducible refine v_if ?_ | with_reducible refine v_asg ?_ | with_reducible refine v_asgO ?_ | with_reducible refine v_asgF ?_ | with_reducible refine v_drop ?_ | with_reducible refine v_par ?_ | with_reducible refine v_par3 ?_ | with_reducible refine v_put ?_ | with_reducible refine w_bind ?_ | with_reducible refine w_bin ?_ | with_reducible refine w_binO ?_ | with_reducible refine w_ret ?_ | with_reducible refine w_ifM ?_ | with_reducible refine w_andB ?_ | with_reducible refine w_orB ?_ | with_reducible refine w_andV ?_ | with_reducible refine w_orV ?_ | with_reducible refine w_slM ?_ | with_reducible refine w_chM ?_ | ((with_reducible show ∃ k, truD _ = some k ∧ iteB k _ _); refine ⟨_, rfl, ?_⟩) | ((with_reducible refine w_eqS ?_ ?_ ?_); (first | assumption | decide +kernel); (first | assumption | decide +kernel)) | ((with_reducible refine iteB_tt ?_ ?_); decide +kernel) | ((with_reducible refine iteB_ff ?_ ?_); decide +kernel) | ((with_reducible refine iteB_tt ?_ ?_); assumption) | ((with_reducible refine iteB_ff ?_ ?_); assumption) | ((with_reducible show iteB _ _ _); first | refine iteB_tt rfl ?_ | refine iteB_ff rfl ?_) | ((with_reducible show ∃ k, cmpD _ _ _ = some (D.bl k) ∧ iteB k _ _); refine ⟨_, rfl, ?_⟩) | ((with_reducible refine w_mul ?_ ?_); first | exact Or.inl ⟨of_decide_eq_true rfl, of_decide_eq_true rfl⟩ | exact Or.inr ⟨of_decide_eq_true rfl, of_decide_eq_true rfl⟩) | ((with_reducible refine w_mod ?_ ?_); exact of_decide_eq_true rfl) | ((with_reducible refine w_div ?_ ?_); exact ⟨of_decide_eq_true rfl, of_decide_eq_true rfl⟩) | ((with_reducible refine w_pow ?_ ?_); exact ⟨of_decide_eq_true rfl, of_decide_eq_true rfl, of_decide_eq_true rfl⟩) | ((with_reducible refine w_lstM ?_ ?_); exact of_decide_eq_true rfl) | ((with_reducible refine w_tupM ?_ ?_); exact of_decide_eq_true rfl) | with_reducible refine w_mul ?_ ?_ | with_reducible refine w_div ?_ ?_ | with_reducible refine w_mod ?_ ?_ | with_reducible refine w_pow ?_ ?_ | with_reducible refine w_lstM ?_ ?_ | with_reducible refine w_tupM ?_ ?_ | ((with_reducible show Wp (mVar _) _ _); refine w_var rfl ?_) | ((with_reducible show Wp (ixN _ _) _ _); first | refine w_ixO rfl rfl ?_ | refine w_ixD rfl rfl ?_) | ((with_reducible show Wp (lenN _) _ _); refine w_lenO rfl ?_) | ((with_reducible show Wp (frzN _) _ _); first | refine w_frzO rfl ?_ | refine w_frzD rfl ?_) | ((with_reducible show Wp (optM _) _ _); (fail_if_success (with_reducible show Wp (optM (lenC _ _ _ _)) _ _)); (fail_if_success (with_reducible show Wp (optM (truC _ _ _ _)) _ _)); (fail_if_success (with_reducible show Wp (optM (strC _ _ _ _)) _ _)); (fail_if_success (with_reducible show Wp (optM (eqO _ _ _ _ _)) _ _)); (fail_if_success (with_reducible show Wp (optM (neO _ _ _ _ _)) _ _)); (fail_if_success (with_reducible show Wp (optM (reprD _)) _ _)); (fail_if_success (with_reducible show Wp (optM (Option.map D.bl _)) _ _)); (fail_if_success (with_reducible show Wp (optM (ownM _ _ _)) _ _)); (fail_if_success (with_reducible show Wp (optM (methO _ _ _ _ _)) _ _)); (fail_if_success (with_reducible show Wp (optM (eqD _ _ _)) _ _)); refine w_opt rfl ?_))))
section
variable {xs : List Str} {rs : List Ru}
theorem w_made {s : S} {ms : M (List D)} {Q : D → S → Prop} {xs : List Str} {ds : List D} {z : D} (p : Pan xs ds) (hm : Wp ms s fun ys s1 => ys = [.lst [.tup (xs.map D.str), .tup ds, z]] ∧ Q (panD xs ds) s1) : Wp (callD 1 m__law_made ms []) s Q := by
  refine w_callD (hm.mono fun ys s1 ⟨e1, q⟩ => ?_)
  subst e1
  unfold m__law_made
  refine v_seq (v_ret (w_bind (w_mk p ?_ ?_)))
  · array_mem_dec
    exact ⟨rfl, rfl⟩
  · array_mem_dec
    exact q
theorem pan_of {ds : List D} (l0 : 0 < xs.length) (l1 : xs.length ≤ 10) (nd : xs.Nodup) (hp : ∀ x ∈ xs, x ∈ pool) (lr : ds.length ≤ 240) (hr : ∀ d ∈ ds, IsRule xs d) : Pan xs ds := ⟨l0, l1, nd, fun x hx => nm_pool x (hp x hx), lr, hr⟩
theorem same_str {z : Str} (h : PyData.strOk z = true) : eqD true (.str z) (.str z) = some (.bl false) := by
  show (if SeqAt.shaped (.str z) = true ∧ SeqAt.shaped (.str z) = true then some (D.bl (true ^^ PyData.eqv (.str z) (.str z))) else none) = _
  rw [if_pos ⟨shaped_str.trans h, shaped_str.trans h⟩]
  simp [PyData.eqv]
def nmC : List Str := ["a", "b", "c"]
def rsC : List Ru := [.needs ("a", true) ("b", true), .needs ("b", true) ("c", true)]
def nmS : List Str := ["pump", "valve", "lamp", "door"]
def rsS : List Ru := [.be ("lamp", true), .either ("pump", true) ("valve", false), .needs ("pump", true) ("valve", true), .bars ("door", true) ("pump", true), .same "pump" "door", .unlike "lamp" "door"]
def pC : D := panD nmC (rsC.map Ru.d)
def pS : D := panD nmS (rsS.map Ru.d)
theorem chain_ok : ownM 0 m_chain [] = some pC := by kernel_rfl
theorem shed_ok : ownM 0 m_shed [] = some pS := by kernel_rfl
theorem okC : ∀ r ∈ rsC, r.ok nmC := by
  intro r hr
  simp only [rsC, List.mem_cons, List.not_mem_nil, or_false] at hr
  rcases hr with rfl | rfl <;> exact ⟨by decide +kernel, by decide +kernel, by decide +kernel⟩
theorem okS : ∀ r ∈ rsS, r.ok nmS := by
  intro r hr
  simp only [rsS, List.mem_cons, List.not_mem_nil, or_false] at hr
  rcases hr with rfl | rfl | rfl | rfl | rfl | rfl
  · show _ ∈ _
    decide +kernel
  all_goals exact ⟨by decide +kernel, by decide +kernel, by decide +kernel⟩
theorem telC : Tel nmC rsC := ⟨⟨by decide, by decide, by decide +kernel, by decide +kernel, by decide, fun d hd => by
  obtain ⟨r, hr, rfl⟩ := List.mem_map.mp hd
  exact Ru.isRule (okC r hr)⟩, okC, by decide⟩
theorem telS : Tel nmS rsS := ⟨⟨by decide, by decide, by decide +kernel, by decide +kernel, by decide, fun d hd => by
  obtain ⟨r, hr, rfl⟩ := List.mem_map.mp hd
  exact Ru.isRule (okS r hr)⟩, okS, by decide⟩
theorem neC : neO 2 m_Panel___eq__ "Panel" pC pC = some (.bl false) := by
  obtain ⟨b, e, i⟩ := neO_pan telC.p telC.p
  obtain rfl := i.mpr ⟨rfl, rfl⟩
  exact e
theorem neS : neO 2 m_Panel___eq__ "Panel" pS pS = some (.bl false) := by
  obtain ⟨b, e, i⟩ := neO_pan telS.p telS.p
  obtain rfl := i.mpr ⟨rfl, rfl⟩
  exact e
theorem eqCS : eqO 2 m_Panel___eq__ "Panel" pC pS = some (.bl false) := by
  obtain ⟨b, e, i⟩ := eqO_pan telC.p telS.p
  have : b = false := by
    cases b with
    | false => rfl
    | true => exact absurd (i.mp rfl).1 (by decide +kernel)
  rw [this] at e
  exact e
theorem lens : eqD false (.lst [.int (rsC.map Ru.d).length, .int (rsS.map Ru.d).length]) (.lst [.int 2, .int 6]) = some (.bl true) := by kernel_rfl
theorem right_ok {o : O} (hb : Bag o) : WS m__law_right (startS 3 [.own o]) fun out => ∃ s2, out = .rd (.bl true) s2 := by
  unfold m__law_right
  refine v_seq (v_asg (w_callD ?_))
  array_mem_dec
  refine w_lendO (n := 8) rfl ?_
  array_mem_dec
  refine ⟨o, rfl, (panel_ok (w := 4) (m := 5) (by decide) (by decide) (by decide) hb).mono ?_⟩
  rintro out ⟨q, s2, o1, rfl, ⟨xs, es, z, rfl, l0, l1, nd, hp, lr, hr, tz⟩, e2, b1⟩
  refine ⟨o1, e2, ?_⟩
  have p := pan_of l0 (by omega) nd hp (by omega) hr
  obtain ⟨rs, ok, rfl⟩ := isRules_ru hr
  rw [List.length_map] at lr
  have t : Tel xs rs := ⟨p, ok, by omega⟩
  array_mem_dec
  unfold m__law_made
  refine v_seq (v_ret (w_bind (w_mk p ?_ ?_)))
  · array_mem_dec
    exact ⟨rfl, rfl⟩
  array_mem_dec
  refine w_own chain_ok ?_
  array_mem_dec
  refine ⟨rfl, ?_⟩
  refine w_own chain_ok ?_
  array_mem_dec
  refine ⟨rfl, ?_⟩
  refine w_opt neC ?_
  array_mem_dec
  refine w_own shed_ok ?_
  array_mem_dec
  refine ⟨rfl, ?_⟩
  refine w_own shed_ok ?_
  array_mem_dec
  refine ⟨rfl, ?_⟩
  refine w_opt neS ?_
  array_mem_dec
  refine w_own chain_ok ?_
  array_mem_dec
  refine ⟨rfl, ?_⟩
  refine w_own shed_ok ?_
  array_mem_dec
  refine ⟨rfl, ?_⟩
  refine w_opt eqCS ?_
  array_mem_dec
  refine v_forL ?_
  array_mem_dec
  refine w_own chain_ok ?_
  array_mem_dec
  refine ⟨rfl, ?_⟩
  array_mem_dec
  refine w_own shed_ok ?_
  array_mem_dec
  refine ⟨rfl, ?_⟩
  array_mem_dec
  refine ⟨_, rfl, ?_⟩
  refine loop_ok (inv := fun ds s => ∃ t2 : Option A, (∀ d ∈ ds, d = pC ∨ d = pS) ∧ s = [some (.own o1), some (.d (panD xs (rs.map Ru.d))), t2]) ?_ ?_ _ _ ⟨none, by simp, rfl⟩
  · rintro d ds s ⟨t2, hd, rfl⟩
    obtain ⟨ys, qs, u, rfl⟩ : ∃ ys qs, Tel ys qs ∧ d = panD ys (qs.map Ru.d) := by
      rcases hd d (by simp) with e | e
      · exact ⟨nmC, rsC, telC, e⟩
      · exact ⟨nmS, rsS, telS, e⟩
    obtain ⟨b, eb, ib⟩ := eqO_pan u.p t.p
    have ot := ok_plain (text_of u.p.nm u.p.l1 u.ok (Nat.le_trans u.lr (by decide))).1
    have ot0 := ok_plain (text_of t.p.nm t.p.l1 t.ok (Nat.le_trans t.lr (by decide))).1
    have same : (textS ys qs == textS xs rs) = b := by
      rw [Bool.eq_iff_iff, beq_iff_eq, text_inj u t, ib]
    refine ⟨_, rfl, ?_⟩
    array_mem_dec
    refine w_opt eb ?_
    array_mem_dec
    refine w_opt (meth_ok u) ?_
    array_mem_dec
    refine w_opt (meth_ok t) ?_
    refine w_eqS ot ot0 ?_
    rw [same]
    refine w_opt (show eqD true (.bl b) (.bl (false ^^ b)) = some (.bl false) by cases b <;> rfl) ?_
    array_mem_dec
    exact ⟨_, fun d h => hd d (by simp [h]), rfl⟩
  · rintro s ⟨t2, _, rfl⟩
    array_mem_dec
    refine w_own chain_ok ?_
    array_mem_dec
    refine ⟨rfl, ?_⟩
    array_mem_dec
    refine w_opt (len_ok telC.p) ?_
    array_mem_dec
    refine w_own shed_ok ?_
    array_mem_dec
    refine ⟨rfl, ?_⟩
    array_mem_dec
    refine w_opt (len_ok telS.p) ?_
    array_mem_dec
    refine w_opt lens ?_
    exact ⟨_, rfl⟩
/-! the law -/
theorem reprs : ∃ z, reprD [.lst [.int 8, .int 10, .int 240, .int 10, .int 1000, .int 40, .int 10]] = some (.str z) ∧ PyData.strOk z = true := by
  have f : ∀ n : Nat, n < 10 ^ 9 → Shw 9 0 (.int (n : Int)) (.int (n : Int)) := fun n h => shw_int h
  exact repr_lst (n := 9) (k := 0) (shs_cons (f 8 (by decide)) (shs_cons (f 10 (by decide)) (shs_cons (f 240 (by decide)) (shs_cons (f 10 (by decide)) (shs_cons (f 1000 (by decide)) (shs_cons (f 40 (by decide)) (shs_cons (f 10 (by decide)) shs_nil))))))) (by decide) (by decide)
theorem txC : methO 3 m_Panel_text "Panel" "text" pC = some (.str "switches a, b, c\nneeds +a +b\nneeds +b +c") := by
  rw [show methO 3 m_Panel_text "Panel" "text" pC = _ from meth_ok telC]
  exact congrArg (fun z => some (D.str z)) (show textS nmC rsC = _ by decide +kernel)
theorem txS : methO 3 m_Panel_text "Panel" "text" pS = some (.str "switches pump, valve, lamp, door\nbe +lamp\neither +pump -valve\nneeds +pump +valve\nbars +door +pump\nsame pump door\nunlike lamp door") := by
  rw [show methO 3 m_Panel_text "Panel" "text" pS = _ from meth_ok telS]
  exact congrArg (fun z => some (D.str z)) (show textS nmS rsS = _ by decide +kernel)
theorem neq1 : eqD true (.str "switches a, b, c\nneeds +a +b\nneeds +b +c") (.str "switches a, b, c\nneeds +a +b\nneeds +b +c") = some (.bl false) := same_str (by decide +kernel)
theorem adS : addL (.str "switches pump, valve, lamp, door\nbe +lamp\neither +pump -valve\nneeds +pump +valve\n") (.str "bars +door +pump\nsame pump door\nunlike lamp door") = some (.str "switches pump, valve, lamp, door\nbe +lamp\neither +pump -valve\nneeds +pump +valve\nbars +door +pump\nsame pump door\nunlike lamp door") := by kernel_rfl
theorem neq2 : eqD true (.str "switches pump, valve, lamp, door\nbe +lamp\neither +pump -valve\nneeds +pump +valve\nbars +door +pump\nsame pump door\nunlike lamp door") (.str "switches pump, valve, lamp, door\nbe +lamp\neither +pump -valve\nneeds +pump +valve\nbars +door +pump\nsame pump door\nunlike lamp door") = some (.bl false) := same_str (by decide +kernel)
theorem law_true (ns : List Int) (h : ns.length ≤ 63) : ∃ s', callR N_law.length m_law [.d (.scr ns)] = some (.rd (.bl true) s') := by
  have run : WS m_law (startS 4 [.d (.scr ns)]) fun out => ∃ s2, out = .rd (.bl true) s2 := by
    obtain ⟨z, er, oz⟩ := reprs
    unfold m_law
    array_mem_dec
    refine w_opt er ?_
    array_mem_dec
    refine w_opt er ?_
    refine w_opt (same_str oz) ?_
    array_mem_dec
    refine w_own chain_ok ?_
    array_mem_dec
    refine ⟨rfl, ?_⟩
    array_mem_dec
    refine w_opt txC ?_
    array_mem_dec
    refine w_own shed_ok ?_
    array_mem_dec
    refine ⟨rfl, ?_⟩
    array_mem_dec
    refine w_opt txS ?_
    array_mem_dec
    refine w_cplR ?_
    array_mem_dec
    have big : ∀ v : Int, 0 ≤ v → v ≤ 5 → rng1 [.int v] = some (rngD 0 v.toNat) := fun v v0 v1 => if_pos (by unfold okR; exact decide_eq_true ⟨by omega, by omega⟩)
    have fits : ∀ m : Int, 0 ≤ m → 0 ≤ (if (if 3 < m then 3 else m) > 2 then if 3 < m then (3 : Int) else m else 2) ∧ (if (if 3 < m then 3 else m) > 2 then if 3 < m then (3 : Int) else m else 2) ≤ 5 := by
      intro m hm
      split <;> split <;> omega
    obtain ⟨f0, f1⟩ := fits (ns.length : Int) (by omega)
    refine ⟨_, big _ f0 f1, ?_⟩
    refine w_comp (inv := fun ds acc s => (∀ d ∈ ds, ∃ k : Int, d = .int k ∧ 0 ≤ k ∧ k < 1000) ∧ acc.length + ds.length ≤ 5 ∧ (∀ d ∈ acc, d = .bl true) ∧ ∃ t1 t2 : Option A, s = [some (.d (.scr ns)), t1, t2, none]) rfl ⟨?_, ?_, (fun d hd => nomatch hd), _, _, rfl⟩ ?_ ?_
    · intro d hd
      unfold rngD at hd
      obtain ⟨k, hk, rfl⟩ := List.mem_map.mp hd
      have hk := List.mem_range.mp hk
      exact ⟨_, rfl, by omega, by omega⟩
    · unfold rngD
      rw [List.length_map, List.length_range, List.length_nil]
      omega
    · rintro d ds acc s ⟨hd, hl, ha, t1, t2, rfl⟩
      obtain ⟨k, rfl, k0, k1⟩ := hd d (by simp)
      simp only [List.length_cons] at hl
      refine ⟨_, rfl, w_ret (iteB_t ?_)⟩
      refine w_giveD (w_callO ?_)
      array_mem_dec
      refine (bag_ok k0 k1).mono ?_
      rintro out ⟨o, s2, rfl, hb⟩
      refine (right_ok hb).mono ?_
      rintro out ⟨s3, rfl⟩
      refine ⟨Nat.lt_of_le_of_lt (by omega : acc.length ≤ 5) (by decide), fun y hy => hd y (by simp [hy]), by simp; omega, ?_, t1, t2, rfl⟩
      intro y hy
      rcases List.mem_append.mp hy with hy | hy
      · exact ha y hy
      · simpa using hy
    · rintro acc s2 ⟨_, _, ha, t1, t2, rfl⟩
      obtain ⟨bs, e, al⟩ := bls_true ha
      array_mem_dec
      refine w_opt (show allD [.lst acc] = some (.bl true) by show (blsD acc).map _ = _; rw [e]; show some (D.bl (bs.all id)) = _; rw [al]) ?_
      array_mem_dec
      exact ⟨_, rfl⟩
  obtain ⟨o, e, s2, rfl⟩ := run
  exact ⟨s2, e⟩
end
end Fli
set_option Elab.async false
set_option linter.all false
set_option maxRecDepth 100000
set_option maxHeartbeats 0
open PySem PySem.W PyProof.Rows
theorem PySem.Challenge.cw_fliponce_k29_limits_and_samples_holds : PySem.Challenge.rw_fliponce_k29_limits_and_samples.Holds := by
  w_on; o_law; k_head; (case hw => w_witness2)
  k_fill
  refine Fli.walkG (l := PySem.Challenge.rw_fliponce_k29_limits_and_samples) (n := 63) (k := 10) (N := Fli.N_law) (x := "_law_script") (body := Fli.m_law) rfl (by decide) rfl ⟨rfl, by decide, by decide⟩ (fun w h Y => PySem.W.kIn_of Y) ?F Fli.law_true
  case F =>
    intro w ih hP hw mg fa h KX G hmg
    obtain ⟨iP, iw⟩ := ih
    cases (show iP = _ from hP)
    cases (show iw = w from hw)
    letI : Fli.HW := ⟨(PySem.Challenge.rw_fliponce_k29_limits_and_samples).prog, w⟩
    refine' Fli.all_mk KX G hmg ?a_Panel ?pg_Panel ?hd_Panel ?po_Panel ?sa_Panel ?oc_Panel ?nn_Panel ?T ?c_CHAIN ?c_HEAD ?c_LETTERS ?c_LITERAL_WORDS ?c_MOST_GIVEN ?c_MOST_NAME ?c_MOST_ROW ?c_MOST_RULES ?c_MOST_SEEN ?c_MOST_SWITCHES ?c_MOST_WISHED ?c_NAME_WORDS ?c_SHED ?c_SIGNS ?c_WORDS ?F__law_bag ?F__law_draw ?F__law_one ?F__law_names ?F__law_holds ?F__law_keeps ?F__law_rule ?F__law_panel ?F_is_name ?F_is_switch ?F_is_sign ?F_is_literal ?F_is_rule ?F_check_switches ?F_check_rules ?F_literal_text ?F_rule_text ?F_read_literal ?F_read_rule ?F__law_made ?F_chain ?F_shed ?F__law_right ?F_law ?F_Panel_text ?F_Panel___len__ ?F_Panel___eq__ ?F_Panel_read ?I_Panel
    (case a_Panel => k_is)
    (case pg_Panel => k_is)
    (case hd_Panel => k_is)
    (case po_Panel => k_is)
    (case sa_Panel => k_is)
    (case oc_Panel => intro hm cl; refine' Fli.ownC_mk hm cl ?a_5 ?b_5 ?c_5 ?d_5 ?na_5 ?q1_5 ?q2_5 ?k1_5 ?k2_5 ?k3_5 ?k4_5 ?k5_5 ?k6_5 ?n1_5 ?n2_5 ?n3_5 ?n4_5 ?n5_5 ?n6_5; (case q1_5 => k_is); (case na_5 => intro f hf; simp only [List.mem_cons, List.not_mem_nil, or_false] at hf; (rcases hf with rfl | rfl) <;> k_is); all_goals k_is)
    (case nn_Panel => intro hm; refine' Fli.noNe_mk hm ?l_6 ?lN_6 ?hk_6 ?e_6 ?ne_6 ?lf_6 ?fe_6; (case l_6 => k_is); (case lN_6 => k_is); (case hk_6 => kernel_rfl); (case e_6 => k_is); (case ne_6 => k_is); (case lf_6 => k_is); (case fe_6 => k_is))
    (case T => refine' Fli.txt_mk KX G ?z1_7 ?z2_7 ?z3_7 ?z4_7 ?z5_7 ?z6_7 ?z7_7 ?z8_7 ?z9_7 ?z10_7 ?z11_7 ?z12_7 ?z13_7 ?z14_7; all_goals k_is)
    (case c_CHAIN => refine' Fli.con_str (PySem.W.mg_of KX G ?a_8); (case a_8 => k_is))
    (case c_HEAD => refine' Fli.con_str (PySem.W.mg_of KX G ?a_9); (case a_9 => k_is))
    (case c_LETTERS => refine' Fli.con_str (PySem.W.mg_of KX G ?a_10); (case a_10 => k_is))
    (case c_LITERAL_WORDS => refine' Fli.con_tup (PySem.W.mg_of KX G ?a_11) ?l_11 ?z_11 ?r_11; (case a_11 => k_is); (case l_11 => k_is); (case z_11 => decide); (case r_11 => exact (.cons ⟨_, rfl⟩ (.cons ⟨_, rfl⟩ (.cons ⟨_, rfl⟩ .nil)))))
    (case c_MOST_GIVEN => refine' Fli.con_int (PySem.W.mg_of KX G ?a_12); (case a_12 => k_is))
    (case c_MOST_NAME => refine' Fli.con_int (PySem.W.mg_of KX G ?a_13); (case a_13 => k_is))
    (case c_MOST_ROW => refine' Fli.con_int (PySem.W.mg_of KX G ?a_14); (case a_14 => k_is))
    (case c_MOST_RULES => refine' Fli.con_int (PySem.W.mg_of KX G ?a_15); (case a_15 => k_is))
    (case c_MOST_SEEN => refine' Fli.con_int (PySem.W.mg_of KX G ?a_16); (case a_16 => k_is))
    (case c_MOST_SWITCHES => refine' Fli.con_int (PySem.W.mg_of KX G ?a_17); (case a_17 => k_is))
    (case c_MOST_WISHED => refine' Fli.con_int (PySem.W.mg_of KX G ?a_18); (case a_18 => k_is))
    (case c_NAME_WORDS => refine' Fli.con_tup (PySem.W.mg_of KX G ?a_19) ?l_19 ?z_19 ?r_19; (case a_19 => k_is); (case l_19 => k_is); (case z_19 => decide); (case r_19 => exact (.cons ⟨_, rfl⟩ (.cons ⟨_, rfl⟩ .nil))))
    (case c_SHED => refine' Fli.con_str (PySem.W.mg_of KX G ?a_20); (case a_20 => k_is))
    (case c_SIGNS => refine' Fli.con_tup (PySem.W.mg_of KX G ?a_21) ?l_21 ?z_21 ?r_21; (case a_21 => k_is); (case l_21 => k_is); (case z_21 => decide); (case r_21 => exact (.cons ⟨_, rfl⟩ (.cons ⟨_, rfl⟩ .nil))))
    (case c_WORDS => refine' Fli.con_tup (PySem.W.mg_of KX G ?a_22) ?l_22 ?z_22 ?r_22; (case a_22 => k_is); (case l_22 => k_is); (case z_22 => decide); (case r_22 => exact (.cons ⟨_, rfl⟩ (.cons ⟨_, rfl⟩ (.cons ⟨_, rfl⟩ (.cons ⟨_, rfl⟩ (.cons ⟨_, rfl⟩ (.cons ⟨_, rfl⟩ .nil))))))))
    (case F__law_bag => refine' Fli.funX_mk KX G ?a_23 ?l_23 ?c_23 ?k_23; (case a_23 => k_is); (case l_23 => k_is); (case c_23 => k_is); (case k_23 => k_is))
    (case F__law_draw => refine' Fli.funX_mk KX G ?a_24 ?l_24 ?c_24 ?k_24; (case a_24 => k_is); (case l_24 => k_is); (case c_24 => k_is); (case k_24 => k_is))
    (case F__law_one => refine' Fli.funX_mk KX G ?a_25 ?l_25 ?c_25 ?k_25; (case a_25 => k_is); (case l_25 => k_is); (case c_25 => k_is); (case k_25 => k_is))
    (case F__law_names => refine' Fli.funX_mk KX G ?a_26 ?l_26 ?c_26 ?k_26; (case a_26 => k_is); (case l_26 => k_is); (case c_26 => k_is); (case k_26 => k_is))
    (case F__law_holds => refine' Fli.funX_mk KX G ?a_27 ?l_27 ?c_27 ?k_27; (case a_27 => k_is); (case l_27 => k_is); (case c_27 => k_is); (case k_27 => k_is))
    (case F__law_keeps => refine' Fli.funX_mk KX G ?a_28 ?l_28 ?c_28 ?k_28; (case a_28 => k_is); (case l_28 => k_is); (case c_28 => k_is); (case k_28 => k_is))
    (case F__law_rule => refine' Fli.funX_mk KX G ?a_29 ?l_29 ?c_29 ?k_29; (case a_29 => k_is); (case l_29 => k_is); (case c_29 => k_is); (case k_29 => k_is))
    (case F__law_panel => refine' Fli.funX_mk KX G ?a_30 ?l_30 ?c_30 ?k_30; (case a_30 => k_is); (case l_30 => k_is); (case c_30 => k_is); (case k_30 => k_is))
    (case F_is_name => refine' Fli.funX_mk KX G ?a_31 ?l_31 ?c_31 ?k_31; (case a_31 => k_is); (case l_31 => k_is); (case c_31 => k_is); (case k_31 => k_is))
    (case F_is_switch => refine' Fli.funX_mk KX G ?a_32 ?l_32 ?c_32 ?k_32; (case a_32 => k_is); (case l_32 => k_is); (case c_32 => k_is); (case k_32 => k_is))
    (case F_is_sign => refine' Fli.funX_mk KX G ?a_33 ?l_33 ?c_33 ?k_33; (case a_33 => k_is); (case l_33 => k_is); (case c_33 => k_is); (case k_33 => k_is))
    (case F_is_literal => refine' Fli.funX_mk KX G ?a_34 ?l_34 ?c_34 ?k_34; (case a_34 => k_is); (case l_34 => k_is); (case c_34 => k_is); (case k_34 => k_is))
    (case F_is_rule => refine' Fli.funX_mk KX G ?a_35 ?l_35 ?c_35 ?k_35; (case a_35 => k_is); (case l_35 => k_is); (case c_35 => k_is); (case k_35 => k_is))
    (case F_check_switches => refine' Fli.funX_mk KX G ?a_36 ?l_36 ?c_36 ?k_36; (case a_36 => k_is); (case l_36 => k_is); (case c_36 => k_is); (case k_36 => k_is))
    (case F_check_rules => refine' Fli.funX_mk KX G ?a_37 ?l_37 ?c_37 ?k_37; (case a_37 => k_is); (case l_37 => k_is); (case c_37 => k_is); (case k_37 => k_is))
    (case F_literal_text => refine' Fli.funX_mk KX G ?a_38 ?l_38 ?c_38 ?k_38; (case a_38 => k_is); (case l_38 => k_is); (case c_38 => k_is); (case k_38 => k_is))
    (case F_rule_text => refine' Fli.funX_mk KX G ?a_39 ?l_39 ?c_39 ?k_39; (case a_39 => k_is); (case l_39 => k_is); (case c_39 => k_is); (case k_39 => k_is))
    (case F_read_literal => refine' Fli.funX_mk KX G ?a_40 ?l_40 ?c_40 ?k_40; (case a_40 => k_is); (case l_40 => k_is); (case c_40 => k_is); (case k_40 => k_is))
    (case F_read_rule => refine' Fli.funX_mk KX G ?a_41 ?l_41 ?c_41 ?k_41; (case a_41 => k_is); (case l_41 => k_is); (case c_41 => k_is); (case k_41 => k_is))
    (case F__law_made => refine' Fli.funX_mk KX G ?a_42 ?l_42 ?c_42 ?k_42; (case a_42 => k_is); (case l_42 => k_is); (case c_42 => k_is); (case k_42 => k_is))
    (case F_chain => refine' Fli.funX_mk KX G ?a_43 ?l_43 ?c_43 ?k_43; (case a_43 => k_is); (case l_43 => k_is); (case c_43 => k_is); (case k_43 => k_is))
    (case F_shed => refine' Fli.funX_mk KX G ?a_44 ?l_44 ?c_44 ?k_44; (case a_44 => k_is); (case l_44 => k_is); (case c_44 => k_is); (case k_44 => k_is))
    (case F__law_right => refine' Fli.funX_mk KX G ?a_45 ?l_45 ?c_45 ?k_45; (case a_45 => k_is); (case l_45 => k_is); (case c_45 => k_is); (case k_45 => k_is))
    (case F_law => refine' Fli.funX_mk KX G ?a_46 ?l_46 ?c_46 ?k_46; (case a_46 => k_is); (case l_46 => k_is); (case c_46 => k_is); (case k_46 => k_is))
    (case F_Panel_text => refine' Fli.methF_mk ?a_47 ?i_47 ?l_47 ?c_47 ?k_47; (case a_47 => k_is); (case i_47 => k_is); (case l_47 => k_is); (case c_47 => k_is); (case k_47 => k_is))
    (case F_Panel___len__ => refine' Fli.methF_mk ?a_48 ?i_48 ?l_48 ?c_48 ?k_48; (case a_48 => k_is); (case i_48 => k_is); (case l_48 => k_is); (case c_48 => k_is); (case k_48 => k_is))
    (case F_Panel___eq__ => refine' Fli.methF_mk ?a_49 ?i_49 ?l_49 ?c_49 ?k_49; (case a_49 => k_is); (case i_49 => k_is); (case l_49 => k_is); (case c_49 => k_is); (case k_49 => k_is))
    (case F_Panel_read => refine' Fli.cmF_mk ?rd_50 ?ga_50 ?a_50 ?rc_50 ?i_50 ?l_50 ?c_50 ?k_50; (case rd_50 => k_is); (case ga_50 => k_is); (case a_50 => k_is); (case rc_50 => k_is); (case i_50 => k_is); (case l_50 => k_is); (case c_50 => k_is); (case k_50 => k_is))
    (case I_Panel => refine' Fli.initF_mk ?mk_51 ?kc_51 ?a_51 ?i_51 ?l_51 ?cd_51 ?k_51 ?lt_51 ?l0_51; (case mk_51 => k_is); (case kc_51 => k_is); (case a_51 => k_is); (case i_51 => k_is); (case l_51 => k_is); (case cd_51 => k_is); (case k_51 => k_is); (case lt_51 => k_is); (case l0_51 => k_is))

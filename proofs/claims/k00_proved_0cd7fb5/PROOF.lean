import PyProof.Rows.All
import Wide.All
import OpenK.AllK
import Wide.FinOn
import HandS.ForMost
import HandS.ForExc
import HandS.TupSets
import HandS.Lambda
import KE.KeyNested
import HandS.IsInst
import HandS.Deep
import HandS.TupAny
import HandS.Style
import HandS.Wide
import HandS.Flow
import HandS.Small
import KE.SortData
import HandS.Star
import HandS.TryMany
import HandS.SetKeys
import KE.DataMinMax
import HandS.SetFor
import HandS.SetBool
import HandS.DictComp
import KE.GoesNew
import KE.GoesZip
import KE.GoesEnum
import KE.DataFind
import HandS.EndTab
import KE.KNestM
import PySem.Challenge.RW_fitfloors_k00_whole_pieces
set_option Elab.async false
set_option linter.all false
set_option maxRecDepth 100000
set_option maxHeartbeats 0
/-! A layer of plain data over the hand layer: an expression's reading is a Lean function of slots and a store. -/
namespace DL
open PySem PySem.Spec PyProof.Rows L2

/-! ### data -/
inductive Ty where
  | int | bool | str | list | tuple
  deriving DecidableEq
def Ty.name : Ty → String
  | .int => "int"
  | .bool => "bool"
  | .str => "str"
  | .list => "list"
  | .tuple => "tuple"
inductive D where
  | non | bl (b : Bool) | int (i : Int) | str (x : Str) | tup (xs : List D) | lst (xs : List D) | fn (n : Nat) | ty (t : Ty)
  deriving Inhabited

/-- where the defs stand, and the world -/
structure FA where
  f : Nat → Addr
  w : World
  /-- the table of the law's code objects -/
  P : Addr
  /-- the lambda that the running def got: where it stands, its code object, its name, what stood frozen when it was made -/
  lam : Option (Addr × Addr × Str × Hp)
instance : CoeFun FA fun _ => Nat → Addr := ⟨FA.f⟩
mutual
inductive Rep (K : PySem.W.Frag) (fa : FA) (F : Hp) : V → D → Prop
  | non : Rep K fa F .non .non
  | bl (b : Bool) : Rep K fa F (.bl b) (.bl b)
  | int (i : Int) : Rep K fa F (.int i) (.int i)
  | str (x : Str) : Rep K fa F (.str x) (.str x)
  | tup {a : Addr} {vs : List V} {ds : List D} : SqT K F a vs → RepL K fa F vs ds → Rep K fa F (.ref a) (.tup ds)
  | lst {a : Addr} {vs : List V} {ds : List D} : SqL K F a vs → RepL K fa F vs ds → Rep K fa F (.ref a) (.lst ds)
  | fn (n : Nat) : Rep K fa F (.ref (fa n)) (.fn n)
  | ty (t : Ty) : Rep K fa F (.ty t.name) (.ty t)
inductive RepL (K : PySem.W.Frag) (fa : FA) (F : Hp) : List V → List D → Prop
  | nil : RepL K fa F [] []
  | cons {v : V} {vs : List V} {d : D} {ds : List D} : Rep K fa F v d → RepL K fa F vs ds → RepL K fa F (v :: vs) (d :: ds)
end

section
variable {K : PySem.W.Frag} {fa : FA} {F F' : Hp}
theorem same_sqt (e : Same F F') {a : Addr} {xs : List V} (h : SqT K F a xs) : SqT K F' a xs := by
  rcases h with (h | ⟨o, h⟩) | h
  · exact .inl (.inl (e _ _ h))
  · exact .inl (.inr ⟨o, e _ _ h⟩)
  · exact .inr h
mutual
theorem Rep.mono (e : Same F F') : ∀ (d : D) (v : V), Rep K fa F v d → Rep K fa F' v d
  | .non, _, .non => .non
  | .bl _, _, .bl b => .bl b
  | .int _, _, .int i => .int i
  | .str _, _, .str x => .str x
  | .tup ds, _, .tup h r => .tup (same_sqt e h) (RepL.mono e ds _ r)
  | .lst ds, _, .lst h r => .lst (e.seq h) (RepL.mono e ds _ r)
  | .fn _, _, .fn n => .fn n
  | .ty _, _, .ty t => .ty t
theorem RepL.mono (e : Same F F') : ∀ (ds : List D) (vs : List V), RepL K fa F vs ds → RepL K fa F' vs ds
  | [], _, .nil => .nil
  | d :: ds, _, .cons h r => .cons (Rep.mono e d _ h) (RepL.mono e ds _ r)
end
theorem RepL.length : ∀ {vs : List V} {ds : List D}, RepL K fa F vs ds → vs.length = ds.length
  | _, _, .nil => rfl
  | _, _, .cons _ r => by rw [List.length_cons, List.length_cons, RepL.length r]
theorem RepL.get : ∀ {vs : List V} {ds : List D} {i : Nat} {d : D}, RepL K fa F vs ds → ds[i]? = some d → ∃ v, vs[i]? = some v ∧ Rep K fa F v d
  | _, _, _, _, .nil, e => by simp at e
  | _, _, 0, _, .cons h _, e => by simp at e; subst e; exact ⟨_, rfl, h⟩
  | _, _, i + 1, d, .cons _ r, e => by
    obtain ⟨v, h1, h2⟩ := RepL.get (i := i) (d := d) r (by simpa using e)
    exact ⟨v, by simpa using h1, h2⟩
theorem RepL.get' : ∀ {vs : List V} {ds : List D} {i : Nat} {v : V}, RepL K fa F vs ds → vs[i]? = some v → ∃ d, ds[i]? = some d ∧ Rep K fa F v d
  | _, _, _, _, .nil, e => by simp at e
  | _, _, 0, _, .cons h _, e => by simp at e; subst e; exact ⟨_, rfl, h⟩
  | _, _, i + 1, d, .cons _ r, e => by
    obtain ⟨v, h1, h2⟩ := RepL.get' (i := i) (v := d) r (by simpa using e)
    exact ⟨v, by simpa using h1, h2⟩
theorem RepL.app : ∀ {vs ws : List V} {ds es : List D}, RepL K fa F vs ds → RepL K fa F ws es → RepL K fa F (vs ++ ws) (ds ++ es)
  | _, _, _, _, .nil, s => s
  | _, _, _, _, .cons h r, s => .cons h (RepL.app r s)
theorem RepL.take : ∀ {vs : List V} {ds : List D} (n : Nat), RepL K fa F vs ds → RepL K fa F (vs.take n) (ds.take n)
  | _, _, 0, _ => .nil
  | _, _, _ + 1, .nil => .nil
  | _, _, n + 1, .cons h r => .cons h (RepL.take n r)
theorem RepL.drop : ∀ {vs : List V} {ds : List D} (n : Nat), RepL K fa F vs ds → RepL K fa F (vs.drop n) (ds.drop n)
  | _, _, 0, r => r
  | _, _, _ + 1, .nil => .nil
  | _, _, n + 1, .cons _ r => RepL.drop n r
theorem RepL.set {v : V} {d : D} (h : Rep K fa F v d) : ∀ {vs : List V} {ds : List D} (i : Nat), RepL K fa F vs ds → RepL K fa F (vs.set i v) (ds.set i d)
  | _, _, _, .nil => .nil
  | _, _, 0, .cons _ t => .cons h t
  | _, _, i + 1, .cons q t => .cons q (RepL.set h i t)
theorem RepL.rev {vs : List V} {ds : List D} (r : RepL K fa F vs ds) : RepL K fa F vs.reverse ds.reverse := by
  induction vs generalizing ds with
  | nil => cases r; exact .nil
  | cons v vs ih =>
    cases r with
    | cons h t => rw [List.reverse_cons, List.reverse_cons]; exact (ih t).app (.cons h .nil)
end

/-! ### values of slots, the store -/
inductive W where
  | d (x : D) | r (n : Nat) | l
instance : Inhabited W := ⟨.d .non⟩
inductive C where
  | lst (xs : List D) | set (xs : List D) | tab (q : Str)
  /-- a dict whose keys are ints and texts; one whose keys are tuples; an instance of the c-th class -/
  | dk (kvs : List (Key × W)) | dn (kvs : List (D × W)) | obj (c : Nat) (fs : List (Str × W))
instance : Inhabited C := ⟨.lst []⟩
/-! members of sets -/
mutual
def keyD : D → NestedKey
  | .bl b => .num (if b = true then 1 else 0)
  | .int i => .num i
  | .str x => .text x
  | .tup xs => .tup (keyDs xs)
  | .non => .none
  | .lst _ => .none
  | .fn _ => .none
  | .ty _ => .none
def keyDs : List D → List NestedKey
  | [] => []
  | x :: xs => keyD x :: keyDs xs
end
mutual
/-- d is a key, n levels deep at most -/
def keyOk : Nat → D → Bool
  | _, .non => true
  | _, .bl _ => true
  | _, .int _ => true
  | _, .str _ => true
  | n + 1, .tup xs => keyOks n xs
  | _, _ => false
def keyOks : Nat → List D → Bool
  | _, [] => true
  | n, x :: xs => keyOk n x && keyOks n xs
end
def isTup : D → Bool
  | .tup _ => true
  | _ => false
def memOk (d : D) : Bool := isTup d && keyOk 8 d
/-- a member: where the tuple stands, what key it is -/
abbrev Mb := Addr × NestedKey
abbrev kh (w : World) (p : Mb) : Int := p.2.hash w
abbrev krow (w : World) (p : Mb) : Int × Value := (kh w p, .ref p.1)
/-- the set at a, its table's words -/
structure KRaw (w : World) (h : Heap) (a : Addr) (L : List Mb) (es : Array (Int × Value)) (ep : Nat) (t : SetTable) : Prop where
  ob : ∃ o, h.get? a = some o ∧ o.ExactSet ∧ o.data = .set es ep t
  es : es.toList = L.map (krow w)
  tab : TabOk t (L.map (kh w))
  nd : (L.map Prod.snd).Nodup
  led : w.params.followText "set-order" = true ∨ t.led = true
  room : L.length * 5 < t.mask * 3
  few : L.length < 64
def KSet (w : World) (a : Addr) (L : List Mb) : HO := .ext fun h => ∃ es ep t, KRaw w h a L es ep t
abbrev Stor := List C
structure Ex where
  cls : Nat
  arg : Option (Str × D)
inductive Res (α : Type) where
  | ok (a : α) (S : Stor) | exc (e : Ex) (S : Stor) | bad
abbrev Rho := List (Option W)
abbrev Den (α : Type) := Rho → Stor → Res α

def Res.bind {α β : Type} (r : Res α) (k : α → Stor → Res β) : Res β := match r with
  | .ok a S => k a S
  | .exc e S => .exc e S
  | .bad => .bad

def RepW (K : PySem.W.Frag) (fa : FA) (F : Hp) (m : List Addr) (v : V) : W → Prop
  | .d x => Rep K fa F v x
  | .r n => ∃ a, m[n]? = some a ∧ v = .ref a
  | .l => ∃ f c q F0, fa.lam = some (f, c, q, F0) ∧ v = .ref f ∧ F0 c = some (LamX.CodeO c q) ∧ Same F0 F

/-- the heap without the store's and the private addresses -/
def fz (m : List Addr) (H : Hp) : Hp := fun a => if a ∈ m then none else H a
theorem fz_sub {m : List Addr} {H : Hp} : Same (fz m H) H := fun b o e => by
  unfold fz at e
  split at e
  · cases e
  · exact e
theorem fz_of {m : List Addr} {H : Hp} {b : Addr} {o : HO} (hn : b ∉ m) (e : H b = some o) : fz m H b = some o := by
  unfold fz
  rw [if_neg hn]
  exact e

def mbD (p : Addr × D) : Mb := (p.1, keyD p.2)
theorem RepW.mono {K : PySem.W.Frag} {fa : FA} {F F' : Hp} {m m' : List Addr} {v : V} {w : W} (h : RepW K fa F m v w) (s : Same F F') (e : ∃ t, m' = m ++ t) : RepW K fa F' m' v w := by
  cases w with
  | d x => exact Rep.mono s x v h
  | r n =>
    obtain ⟨a, h1, h2⟩ := h
    obtain ⟨t, rfl⟩ := e
    exact ⟨a, by rw [List.getElem?_append_left (List.getElem?_eq_some_iff.mp h1).1]; exact h1, h2⟩
  | l =>
    obtain ⟨f, c, q, F0, e1, h1, h2, h3⟩ := h
    exact ⟨f, c, q, F0, e1, h1, h2, fun b o z => s _ _ (h3 b o z)⟩
/-- a value within a cell -/
def RepC (K : PySem.W.Frag) (fa : FA) (F : Hp) (m : List Addr) (v : V) : W → Prop
  | .d x => Rep K fa F v x
  | .r n => ∃ a, m[n]? = some a ∧ v = .ref a
  | .l => False
theorem RepC.mono {K : PySem.W.Frag} {fa : FA} {F F' : Hp} {m m' : List Addr} {v : V} {w : W} (h : RepC K fa F m v w) (s : Same F F') (e : ∃ t, m' = m ++ t) : RepC K fa F' m' v w := by
  cases w with
  | d x => exact Rep.mono s x v h
  | r n =>
    obtain ⟨a, h1, h2⟩ := h
    obtain ⟨t, rfl⟩ := e
    exact ⟨a, by rw [List.getElem?_append_left (List.getElem?_eq_some_iff.mp h1).1]; exact h1, h2⟩
  | l => exact h.elim
theorem RepC.toW {K : PySem.W.Frag} {fa : FA} {F : Hp} {m : List Addr} {v : V} {w : W} (h : RepC K fa F m v w) : RepW K fa F m v w := by
  cases w with
  | d x => exact h
  | r n => exact h
  | l => exact h.elim
def notL : W → Bool
  | .l => false
  | _ => true
theorem RepC.of {K : PySem.W.Frag} {fa : FA} {F : Hp} {m : List Addr} {v : V} {w : W} (h : RepW K fa F m v w) (n : notL w = true) : RepC K fa F m v w := by
  cases w with
  | d x => exact h
  | r n => exact h
  | l => exact absurd n Bool.false_ne_true
/-- tables of the same keys, their values told -/
inductive KR {κ : Type} (R : V → W → Prop) : List (κ × V) → List (κ × W) → Prop
  | nil : KR R [] []
  | cons {k : κ} {v : V} {w : W} {vs : List (κ × V)} {ws : List (κ × W)} : R v w → KR R vs ws → KR R ((k, v) :: vs) ((k, w) :: ws)
theorem KR.imp {κ : Type} {R R' : V → W → Prop} (h : ∀ v w, R v w → R' v w) : ∀ {vs : List (κ × V)} {ws : List (κ × W)}, KR R vs ws → KR R' vs ws
  | _, _, .nil => .nil
  | _, _, .cons r t => .cons (h _ _ r) (KR.imp h t)
/-- an entry of a dict whose keys are tuples: the key, where its tuple stands, the value -/
abbrev Ent := NestedKey × Addr × V
inductive EntRel : List Ent → List (NestedKey × Addr × Value) → Prop
  | nil : EntRel [] []
  | cons {k : NestedKey} {a : Addr} {v : V} {u : Value} {es us} : RelV v u → EntRel es us → EntRel ((k, a, v) :: es) ((k, a, u) :: us)
def KDict (w : World) (a : Addr) (L : List Ent) : HO := .ext fun h => (a == sysModules) = false ∧ L.length ≤ sizeLine ∧ ∃ us p, EntRel L us ∧ h.DictOfH (nestedKind p w) a us
/-- the entries of such a dict, told -/
inductive DN (K : PySem.W.Frag) (fa : FA) (F : Hp) (R : V → W → Prop) : List Ent → List (D × W) → Prop
  | nil : DN K fa F R [] []
  | cons {d : D} {b : Addr} {v : V} {w : W} {es : List Ent} {ws : List (D × W)} : Rep K fa F (.ref b) d → memOk d = true → R v w → DN K fa F R es ws → DN K fa F R ((keyD d, b, v) :: es) ((d, w) :: ws)
theorem DN.imp {K : PySem.W.Frag} {fa : FA} {F F' : Hp} {R R' : V → W → Prop} (s : Same F F') (h : ∀ v w, R v w → R' v w) : ∀ {es : List Ent} {ws : List (D × W)}, DN K fa F R es ws → DN K fa F' R' es ws
  | _, _, .nil => .nil
  | _, _, .cons r k q t => .cons (Rep.mono s _ _ r) k (h _ _ q) (DN.imp s h t)
/-- the members of a set: found by their addresses -/
structure Mems (K : PySem.W.Frag) (fa : FA) (F : Hp) (ps : List (Addr × D)) (L : List Mb) : Prop where
  rep : ∀ p ∈ ps, Rep K fa F (.ref p.1) p.2 ∧ memOk p.2 = true
  perm : L.Perm (ps.map mbD)
def Cell (K : PySem.W.Frag) (fa : FA) (F : Hp) (m : List Addr) (H : Hp) (a : Addr) : C → Prop
  | .lst xs => ∃ vs, H a = some (.lst vs) ∧ RepL K fa F vs xs
  | .set xs => ∃ ps L, ps.map Prod.snd = xs ∧ Mems K fa F ps L ∧ H a = some (KSet fa.w a L)
  | .tab q => a = fa.P ∧ ∃ ps : Array Value, H a = some (.tbl ps) ∧ TriplesOk ps.toList ∧ ∀ (pos : Pos) (cv : Value), codeAmong pos ps.toList = some cv → ∃ c, cv = .ref c ∧ F c = some (LamX.CodeO c q)
  | .dk kvs => ∃ vs, H a = some (.dK vs) ∧ KR (RepC K fa F m) vs kvs
  | .dn kvs => ∃ L, H a = some (KDict fa.w a L) ∧ DN K fa F (RepC K fa F m) L kvs
  | .obj c fs => ∃ dx vs, H a = some (.ins (fa c) dx vs) ∧ KR (RepC K fa F m) vs fs
theorem Cell.moveX {K : PySem.W.Frag} {fa : FA} {F F' H H' : Hp} {m m' : List Addr} {a : Addr} {c : C} (h : Cell K fa F m H a c) (s : Same F F') (e : H' a = H a) (em : ∃ t, m' = m ++ t) : Cell K fa F' m' H' a c := by
  cases c with
  | lst xs =>
    obtain ⟨vs, h1, h2⟩ := h
    exact ⟨vs, e.trans h1, RepL.mono s xs vs h2⟩
  | set xs =>
    obtain ⟨ps, L, h1, h2, h3⟩ := h
    exact ⟨ps, L, h1, ⟨fun p hp => ⟨Rep.mono s _ _ (h2.rep p hp).1, (h2.rep p hp).2⟩, h2.perm⟩, e.trans h3⟩
  | tab q =>
    obtain ⟨h0, ps, h1, h2, h3⟩ := h
    exact ⟨h0, ps, e.trans h1, h2, fun pos cv hc => by
      obtain ⟨c, k1, k2⟩ := h3 pos cv hc
      exact ⟨c, k1, s _ _ k2⟩⟩
  | dk kvs =>
    obtain ⟨vs, h1, h2⟩ := h
    exact ⟨vs, e.trans h1, h2.imp fun _ _ r => r.mono s em⟩
  | dn kvs =>
    obtain ⟨L, h1, h2⟩ := h
    exact ⟨L, e.trans h1, h2.imp s fun _ _ r => r.mono s em⟩
  | obj c fs =>
    obtain ⟨dx, vs, h1, h2⟩ := h
    exact ⟨dx, vs, e.trans h1, h2.imp fun _ _ r => r.mono s em⟩
theorem Cell.move {K : PySem.W.Frag} {fa : FA} {F F' H H' : Hp} {m : List Addr} {a : Addr} {c : C} (h : Cell K fa F m H a c) (s : Same F F') (e : H' a = H a) : Cell K fa F' m H' a c := h.moveX s e ⟨[], (List.append_nil _).symm⟩
theorem Cell.there {K : PySem.W.Frag} {fa : FA} {F H : Hp} {m : List Addr} {a : Addr} {c : C} (h : Cell K fa F m H a c) : ∃ o, H a = some o := by
  cases c with
  | lst xs =>
    obtain ⟨vs, h1, h2⟩ := h
    exact ⟨_, h1⟩
  | set xs =>
    obtain ⟨ps, L, h1, h2, h3⟩ := h
    exact ⟨_, h3⟩
  | tab q =>
    obtain ⟨_, ps, h1, h2, h3⟩ := h
    exact ⟨_, h1⟩
  | dk kvs =>
    obtain ⟨vs, h1, h2⟩ := h
    exact ⟨_, h1⟩
  | dn kvs =>
    obtain ⟨L, h1, h2⟩ := h
    exact ⟨_, h1⟩
  | obj c fs =>
    obtain ⟨dx, vs, h1, h2⟩ := h
    exact ⟨_, h1⟩

structure SRel (K : PySem.W.Frag) (fa : FA) (x m : List Addr) (H : Hp) (S : Stor) : Prop where
  nd : (m ++ x).Nodup
  len : m.length = S.length
  cell : ∀ (i : Nat) (a : Addr) (c : C), m[i]? = some a → S[i]? = some c → Cell K fa (fz (m ++ x) H) m H a c
  there : ∀ a, a ∈ x → H a ≠ none

structure Step (m : List Addr) (H : Hp) (m' : List Addr) (H' : Hp) : Prop where
  pre : ∃ t, m' = m ++ t
  new : ∀ a, a ∈ m' → a ∉ m → H a = none
  keep : ∀ a o, H a = some o → a ∉ m → H' a = some o

theorem Step.refl (m : List Addr) (H : Hp) : Step m H m H := ⟨⟨[], by simp⟩, fun _ h n => absurd h n, fun _ _ h _ => h⟩
theorem Step.trans {m m1 m2 : List Addr} {H H1 H2 : Hp} (s : Step m H m1 H1) (t : Step m1 H1 m2 H2) : Step m H m2 H2 := by
  obtain ⟨⟨a, ha⟩, n1, k1⟩ := s
  obtain ⟨⟨b, hb⟩, n2, k2⟩ := t
  refine ⟨⟨a ++ b, by rw [hb, ha, List.append_assoc]⟩, fun c hc hn => ?_, fun c o e hn => ?_⟩
  · by_cases h1 : c ∈ m1
    · exact n1 c h1 hn
    · cases q : H c with
      | none => rfl
      | some o =>
        have := n2 c hc h1
        rw [k1 c o q hn] at this
        cases this
  · have h1 : c ∉ m1 := fun h1 => by
      have := n1 c h1 hn
      rw [e] at this
      cases this
    exact k2 c o (k1 c o e hn) h1
theorem Step.get {m m' : List Addr} {H H' : Hp} (s : Step m H m' H') {i : Nat} {a : Addr} (h : m[i]? = some a) : m'[i]? = some a := by
  obtain ⟨t, rfl⟩ := s.pre
  exact List.getElem?_append_left (List.getElem?_eq_some_iff.mp h).1 ▸ h
theorem Step.sub {m m' : List Addr} {H H' : Hp} (s : Step m H m' H') : ∀ a, a ∈ m → a ∈ m' := fun a h => by
  obtain ⟨t, rfl⟩ := s.pre
  exact List.mem_append_left _ h
theorem Step.fz {m m' x : List Addr} {H H' : Hp} (s : Step m H m' H') : Same (fz (m ++ x) H) (fz (m' ++ x) H') := fun a o e => by
  unfold DL.fz at e
  split at e
  · cases e
  · rename_i hn
    have h1 : a ∉ m := fun h => hn (List.mem_append_left _ h)
    have h2 : a ∉ x := fun h => hn (List.mem_append_right _ h)
    refine fz_of (fun h => ?_) (s.keep a o e h1)
    rcases List.mem_append.mp h with h | h
    · have := s.new a h h1
      rw [e] at this
      cases this
    · exact h2 h
section
variable {K : PySem.W.Frag} {fa : FA} {x m m' : List Addr} {H H' : Hp} {S S' : Stor}
theorem RepW.step (s : Step m H m' H') {v : V} {w : W} (h : RepW K fa (fz (m ++ x) H) m v w) : RepW K fa (fz (m' ++ x) H') m' v w := by
  cases w with
  | d d => exact Rep.mono s.fz d v h
  | r n => obtain ⟨a, e, q⟩ := h; exact ⟨a, s.get e, q⟩
  | l => obtain ⟨f, c, q, F0, e, h1, h2, h3⟩ := h; exact ⟨f, c, q, F0, e, h1, h2, fun b o z => s.fz _ _ (h3 b o z)⟩

structure ERel (K : PySem.W.Frag) (fa : FA) (F : Hp) (m : List Addr) (sg : L2.St) (rho : Rho) : Prop where
  len : rho.length = sg.length
  get : ∀ (i : Nat) (w : W), rho[i]? = some (some w) → ∃ v, sg[i]? = some (some v) ∧ RepW K fa F m v w
theorem ERel.step (s : Step m H m' H') {sg : L2.St} {rho : Rho} (h : ERel K fa (fz (m ++ x) H) m sg rho) : ERel K fa (fz (m' ++ x) H') m' sg rho :=
  ⟨h.len, fun i w e => let ⟨v, a, b⟩ := h.get i w e; ⟨v, a, b.step s⟩⟩
theorem ERel.set {F : Hp} {sg : L2.St} {rho : Rho} (h : ERel K fa F m sg rho) (i : Nat) {v : V} {w : W} (r : RepW K fa F m v w) : ERel K fa F m (sg.set i (some v)) (rho.set i (some w)) := by
  refine ⟨by simp [h.len], fun j u e => ?_⟩
  by_cases hj : i = j
  · subst hj
    by_cases hl : i < rho.length
    · rw [List.getElem?_set_self hl] at e
      cases e
      exact ⟨v, List.getElem?_set_self (by rw [← h.len]; exact hl), r⟩
    · rw [List.getElem?_eq_none (by simpa using hl)] at e
      cases e
  · rw [List.getElem?_set_ne hj] at e
    obtain ⟨v', a, b⟩ := h.get j u e
    exact ⟨v', by rw [List.getElem?_set_ne hj]; exact a, b⟩

/-- an exception as it is told -/
def ExRel (K : PySem.W.Frag) (fa : FA) (F H : Hp) (e : Ex) (c : Value) (d : Option Addr) : Prop :=
  c = .ref (fa e.cls) ∧ match e.arg with
  | none => d = none
  | some (f, x) => ∃ dx v, d = some dx ∧ H dx = some (.xd [(f, v)]) ∧ Rep K fa F v x

/-- what is wanted behind a reading -/
def After {α β : Type} (K : PySem.W.Frag) (fa : FA) (x m : List Addr) (H : Hp) (sg : L2.St) (Wx : WX) (rel : Hp → List Addr → β → α → Prop) (Q : β → Hp → Prop) : Res α → Prop
  | .ok w S' => ∀ v m' H', Step m H m' H' → SRel K fa x m' H' S' → rel (fz (m' ++ x) H') m' v w → Q v H'
  | .exc e S' => ∀ c d m' H', Step m H m' H' → SRel K fa x m' H' S' → ExRel K fa (fz (m' ++ x) H') H' e c d → Wx c d sg H'
  | .bad => False
abbrev relW (K : PySem.W.Frag) (fa : FA) : Hp → List Addr → V → W → Prop := fun F m v w => RepW K fa F m v w
inductive RepWs (K : PySem.W.Frag) (fa : FA) (F : Hp) (m : List Addr) : List V → List W → Prop
  | nil : RepWs K fa F m [] []
  | cons {v : V} {vs : List V} {w : W} {ws : List W} : RepW K fa F m v w → RepWs K fa F m vs ws → RepWs K fa F m (v :: vs) (w :: ws)
theorem RepWs.step (s : Step m H m' H') : ∀ {vs : List V} {ws : List W}, RepWs K fa (fz (m ++ x) H) m vs ws → RepWs K fa (fz (m' ++ x) H') m' vs ws
  | _, _, .nil => .nil
  | _, _, .cons h r => .cons (h.step s) (RepWs.step s r)
theorem RepWs.length {F : Hp} : ∀ {vs : List V} {ws : List W}, RepWs K fa F m vs ws → vs.length = ws.length
  | _, _, .nil => rfl
  | _, _, .cons _ r => by rw [List.length_cons, List.length_cons, RepWs.length r]

/-- the state told: private x, the store's addresses m -/
structure At (K : PySem.W.Frag) (fa : FA) (x m : List Addr) (sg : L2.St) (H : Hp) (rho : Rho) (S : Stor) : Prop where
  s : SRel K fa x m H S
  e : ERel K fa (fz (m ++ x) H) m sg rho
theorem At.step (a : At K fa x m sg H rho S) (s : Step m H m' H') (t : SRel K fa x m' H' S') : At K fa x m' sg H' rho S' := ⟨t, a.e.step s⟩

/-- a reading by a function -/
def T {α β : Type} (K : PySem.W.Frag) (fa : FA) (Wx : WX) (rel : Hp → List Addr → β → α → Prop) (f : Den α) : L2.St → Hp → (β → Hp → Prop) → Prop := fun sg H Q =>
  ∃ x m rho S, At K fa x m sg H rho S ∧ After K fa x m H sg Wx rel Q (f rho S)

/-- where one stands behind the first of several readings -/
theorem After.then {α β γ δ : Type} {sg : L2.St} {Wx : WX} {rel : Hp → List Addr → β → α → Prop} {rel' : Hp → List Addr → δ → γ → Prop} {Q : δ → Hp → Prop} {r : Res α} {k : α → Stor → Res γ}
    (h : After K fa x m H sg Wx rel' Q (r.bind k)) : After K fa x m H sg Wx rel (fun v H1 => ∃ m1 w S1, Step m H m1 H1 ∧ SRel K fa x m1 H1 S1 ∧ rel (fz (m1 ++ x) H1) m1 v w ∧ After K fa x m1 H1 sg Wx rel' Q (k w S1)) r := by
  cases r with
  | bad => exact h
  | exc e S' => exact h
  | ok w S1 =>
    intro v m1 H1 s1 r1 rw1
    refine ⟨m1, w, S1, s1, r1, rw1, ?_⟩
    have h : After K fa x m H sg Wx rel' Q (k w S1) := h
    revert h
    cases k w S1 with
    | bad => exact id
    | exc e S2 => exact fun h c d m' H' s2 r2 x2 => h c d m' H' (s1.trans s2) r2 x2
    | ok w2 S2 => exact fun h v2 m' H' s2 r2 rw2 => h v2 m' H' (s1.trans s2) r2 rw2
/-- the end -/
theorem After.ok {α β : Type} {sg : L2.St} {Wx : WX} {rel : Hp → List Addr → β → α → Prop} {Q : β → Hp → Prop} {w : α} (h : After K fa x m H sg Wx rel Q (.ok w S)) {v : β} (s : SRel K fa x m H S) (r : rel (fz (m ++ x) H) m v w) : Q v H :=
  h v m H (Step.refl _ _) s r
end

/-! ### the judgements -/
section
variable {X : Cx}
theorem PE.imp {e : Expr} {t t' : TE} (h : PE X e t) (k : ∀ sg H Q, t' sg H Q → t sg H Q) : PE X e t' := ⟨fun pins s sg H Q I q => h.run pins s sg H Q I (k sg H Q q)⟩
theorem PT.imp {e : Expr} {t t' : TT} (h : PT X e t) (k : ∀ sg H Q, t' sg H Q → t sg H Q) : PT X e t' := ⟨fun pins s sg H Q I q => h.run pins s sg H Q I (k sg H Q q)⟩
theorem PA.imp {e : List Expr} {t t' : TA} (h : PA X e t) (k : ∀ sg H Q, t' sg H Q → t sg H Q) : PA X e t' := ⟨fun p pins s sg H Q I q => h.run p pins s sg H Q I (k sg H Q q)⟩
theorem PS.imp {e : Stmt} {t t' : TS} (h : PS X e t) (k : ∀ D sg H, t' D sg H → t D sg H) : PS X e t' := ⟨fun pins s sg H D I q => h.run pins s sg H D I (k D sg H q)⟩
theorem PSs.imp {e : List Stmt} {t t' : TS} (h : PSs X e t) (k : ∀ D sg H, t' D sg H → t D sg H) : PSs X e t' := ⟨fun pins s sg H D I q => h.run pins s sg H D I (k D sg H q)⟩
end
abbrev DE (X : Cx) (fa : FA) (Wx : WX) (e : Expr) (f : Den W) : Prop := PE X e (T X.K fa Wx (relW X.K fa) f)
abbrev relB : Hp → List Addr → Bool → Bool → Prop := fun _ _ b c => b = c
abbrev DT (X : Cx) (fa : FA) (Wx : WX) (e : Expr) (f : Den Bool) : Prop := PT X e (T X.K fa Wx relB f)
abbrev DA (X : Cx) (fa : FA) (Wx : WX) (es : List Expr) (f : Den (List W)) : Prop := PA X es (T X.K fa Wx (fun F m vs ws => RepWs X.K fa F m vs ws) f)

/-! ### names, constants -/
def dVar (i : Nat) : Den W := fun rho S => match rho[i]? with
  | some (some w) => .ok w S
  | _ => .bad
def dC (d : D) : Den W := fun _ S => .ok (.d d) S
section
variable {X : Cx} {fa : FA} {Wx : WX} {pos : Pos}
theorem de_var {i : Nat} {e : Expr} (h : PE X e (tVar i)) : DE X fa Wx e (dVar i) := by
  refine PE.imp h fun sg H Q ⟨x, m, rho, S, a, q⟩ => ?_
  unfold dVar at q
  split at q
  · rename_i w e
    obtain ⟨v, h1, h2⟩ := a.e.get i w e
    exact ⟨v, h1, q.ok a.s h2⟩
  · exact q.elim
theorem de_c {e : Expr} {v : V} {d : D} (h : PE X e (tC v)) (r : ∀ F, Rep X.K fa F v d) : DE X fa Wx e (dC d) := by
  refine PE.imp h fun sg H Q ⟨x, m, rho, S, a, q⟩ => ?_
  exact (show After _ _ _ _ _ _ _ _ _ (Res.ok (W.d d) S) from q).ok a.s (r _)
theorem de_int {i : Int} {j} : DE X fa Wx (.Constant (.int i) j pos) (dC (.int i)) := de_c pe_int fun _ => .int i
theorem de_bl {b : Bool} {j} : DE X fa Wx (.Constant (.bool b) j pos) (dC (.bl b)) := de_c pe_bl fun _ => .bl b
theorem de_non {j} : DE X fa Wx (.Constant .none j pos) (dC .non) := de_c pe_non fun _ => .non
theorem de_str {x : Str} {j} : DE X fa Wx (.Constant (.str x) j pos) (dC (.str x)) := de_c pe_str fun _ => .str x
end

/-! ### operators by values -/
def dOp (g : W → W → Stor → Res W) (fa fb : Den W) : Den W := fun rho S => (fa rho S).bind fun a S1 => (fb rho S1).bind fun b S2 => g a b S2
def dUn (g : W → Stor → Res W) (fa : Den W) : Den W := fun rho S => (fa rho S).bind g
/-- an operator's rule and its function -/
def OpD (X : Cx) (fa : FA) (r : R2) (g : W → W → Stor → Res W) : Prop :=
  ∀ (x m : List Addr) (H : Hp) (S : Stor) (sg : L2.St) (Wx : WX) (v u : V) (a b : W) (Q : VK), SRel X.K fa x m H S → RepW X.K fa (fz (m ++ x) H) m v a → RepW X.K fa (fz (m ++ x) H) m u b →
    After X.K fa x m H sg Wx (relW X.K fa) Q (g a b S) → r v u H Q
def UnD (X : Cx) (fa : FA) (r : V → Hp → VK → Prop) (g : W → Stor → Res W) : Prop :=
  ∀ (x m : List Addr) (H : Hp) (S : Stor) (sg : L2.St) (Wx : WX) (v : V) (a : W) (Q : VK), SRel X.K fa x m H S → RepW X.K fa (fz (m ++ x) H) m v a →
    After X.K fa x m H sg Wx (relW X.K fa) Q (g a S) → r v H Q
section
variable {X : Cx} {fa : FA} {Wx : WX} {pos : Pos} {a b : Expr} {f f' : Den W}
/-- two readings in a row -/
theorem T.two {r : R2} {g : W → W → Stor → Res W} {ta tb : TE} (k : OpD X fa r g) (ha : ∀ sg H Q, T X.K fa Wx (relW X.K fa) f sg H Q → ta sg H Q) (hb : ∀ sg H Q, T X.K fa Wx (relW X.K fa) f' sg H Q → tb sg H Q) {sg : L2.St} {H : Hp} {Q : VK}
    (h : T X.K fa Wx (relW X.K fa) (dOp g f f') sg H Q) : tOp r ta tb sg H Q := by
  obtain ⟨x, m, rho, S, at_, q⟩ := h
  refine ha sg H _ ⟨x, m, rho, S, at_, ?_⟩
  have q1 := After.then (rel := relW X.K fa) q
  revert q1
  cases f rho S with
  | bad => exact id
  | exc e S1 => exact id
  | ok w1 S1 =>
    intro q1 v m1 H1 s1 r1 rw1
    obtain ⟨m1', w1', S1', t1, u1, rw1', q2⟩ := q1 v m1 H1 s1 r1 rw1
    refine hb sg H1 _ ⟨x, m1', rho, S1', at_.step t1 u1, ?_⟩
    have q3 := After.then (rel := relW X.K fa) q2
    revert q3
    cases f' rho S1' with
    | bad => exact id
    | exc e S2 => exact id
    | ok w2 S2 =>
      intro q3 u m2 H2 s2 r2 rw2
      obtain ⟨m2', w2', S2', t2, u2, rw2', q4⟩ := q3 u m2 H2 s2 r2 rw2
      exact k x m2' H2 S2' sg Wx v u w1' w2' Q u2 (rw1'.step t2) rw2' q4
theorem de_op {op : Operator} {r : R2} {g : W → W → Stor → Res W} (ho : OpR X (binaryOp op) r) (k : OpD X fa r g) (ha : DE X fa Wx a f) (hb : DE X fa Wx b f') : DE X fa Wx (.BinOp a op b pos) (dOp g f f') :=
  PE.imp (pe_op ho ha hb) fun _ _ _ h => T.two k (fun _ _ _ q => q) (fun _ _ _ q => q) h
theorem de_cmp {op : CmpOp} {r : R2} {g : W → W → Stor → Res W} (ho : OpR X (compareOp op) r) (k : OpD X fa r g) (ha : DE X fa Wx a f) (hb : DE X fa Wx b f') (hm : behindInMarks op b = false) : DE X fa Wx (.Compare a [op] [b] pos) (dOp g f f') :=
  PE.imp (pe_cmpR ho ha hb hm) fun _ _ _ h => T.two k (fun _ _ _ q => q) (fun _ _ _ q => q) h
end
end DL
namespace DL
open PySem PySem.Spec PyProof.Rows L2

/-! ### data as the library has them -/
mutual
def D.pd : D → PyData
  | .non => .none
  | .bl b => .bool b
  | .int i => .int i
  | .str x => .str x
  | .tup xs => .tuple (pds xs)
  | .lst xs => .list (pds xs)
  | .fn _ => .none
  | .ty _ => .none
def pds : List D → List PyData
  | [] => []
  | x :: xs => x.pd :: pds xs
end
mutual
def D.pure : D → Bool
  | .tup xs => pures xs
  | .lst xs => pures xs
  | .fn _ => false
  | .ty _ => false
  | _ => true
def pures : List D → Bool
  | [] => true
  | x :: xs => x.pure && pures xs
end
theorem pds_map : ∀ xs : List D, pds xs = xs.map D.pd
  | [] => rfl
  | x :: xs => by rw [pds, pds_map xs, List.map_cons]
theorem pures_all : ∀ xs : List D, pures xs = xs.all D.pure
  | [] => rfl
  | x :: xs => by rw [pures, pures_all xs, List.all_cons]
section
variable {K : PySem.W.Frag} {fa : FA} {F : Hp}
mutual
theorem Rep.dp : ∀ (d : D) (v : V), Rep K fa F v d → d.pure = true → Dp K F v d.pd
  | .non, _, .non, _ => by rw [D.pd]; exact .non
  | .bl _, _, .bl b, _ => by rw [D.pd]; exact .bl b
  | .int _, _, .int i, _ => by rw [D.pd]; exact .int i
  | .str _, _, .str x, _ => by rw [D.pd]; exact .str x
  | .tup ds, _, .tup h r, p => by rw [D.pd]; exact .tup h (RepL.dp ds _ r (by rw [D.pure] at p; exact p))
  | .lst ds, _, .lst h r, p => by rw [D.pd]; exact .lst h (RepL.dp ds _ r (by rw [D.pure] at p; exact p))
  | .fn _, _, .fn n, p => by rw [D.pure] at p; cases p
  | .ty _, _, .ty n, p => by rw [D.pure] at p; cases p
theorem RepL.dp : ∀ (ds : List D) (vs : List V), RepL K fa F vs ds → pures ds = true → DpAll K F vs (pds ds)
  | [], _, .nil, _ => by rw [pds]; exact .nil
  | d :: ds, _, .cons h r, p => by
    rw [pures, Bool.and_eq_true] at p
    rw [pds]
    exact .cons (Rep.dp d _ h p.1) (RepL.dp ds _ r p.2)
end
end
def okD (d : D) : Bool := d.pure && SeqAt.shaped d.pd

/-- what stands behind a value now -/
def valD (S : Stor) : W → Option D
  | .d x => some x
  | .r n => match S[n]? with
    | some (.lst xs) => some (.lst xs)
    | _ => none
  | .l => none

def fin (mu : Bool) (xs : List D) (S : Stor) : Res W := if mu = true then .ok (.r S.length) (S ++ [.lst xs]) else .ok (.d (.lst xs)) S

section
variable {K : PySem.W.Frag} {fa : FA} {x m : List Addr} {H : Hp} {S : Stor} {sg : L2.St} {Wx : WX}
theorem SRel.at' (s : SRel K fa x m H S) {a : Addr} (h : a ∈ m) : ∃ o, H a = some o := by
  obtain ⟨i, e⟩ := List.getElem?_of_mem h
  have hi : i < S.length := by rw [← s.len]; exact (List.getElem?_eq_some_iff.mp e).1
  exact (s.cell i a S[i] e (List.getElem?_eq_getElem hi)).there
theorem SRel.off (s : SRel K fa x m H S) {p : Addr} (h : H p = none) : p ∉ m ∧ p ∉ x := by
  refine ⟨fun z => ?_, fun z => s.there p z h⟩
  obtain ⟨o, e⟩ := s.at' z
  rw [h] at e
  cases e
theorem Step.laid {p : Addr} {o : HO} (h : H p = none) : Step m H m (upd H p o) := ⟨⟨[], by simp⟩, fun _ z n => absurd z n, fun b u e _ => by rw [upd_ne (ne_of_none e h)]; exact e⟩
theorem cell_step {m' : List Addr} {H' : Hp} {c : C} {a : Addr} (st : Step m H m' H') (h : Cell K fa (fz (m ++ x) H) m H a c) (e : H' a = H a) : Cell K fa (fz (m' ++ x) H') m' H' a c := h.moveX st.fz e st.pre
theorem SRel.laid (s : SRel K fa x m H S) {p : Addr} {o : HO} (h : H p = none) : SRel K fa x m (upd H p o) S := by
  refine ⟨s.nd, s.len, fun i a c e1 e2 => ?_, fun a ha => ?_⟩
  · have hm : a ∈ m := List.mem_of_getElem? e1
    have hne : a ≠ p := fun z => (s.off h).1 (z ▸ hm)
    exact cell_step (Step.laid h) (s.cell i a c e1 e2) (upd_ne hne)
  · rw [upd_ne (fun (z : a = p) => (s.off h).2 (z ▸ ha))]
    exact s.there a ha
theorem Step.stored {p : Addr} {o : HO} (h : H p = none) : Step m H (m ++ [p]) (upd H p o) := by
  refine ⟨⟨[p], rfl⟩, fun a z n => ?_, fun b u e _ => by rw [upd_ne (ne_of_none e h)]; exact e⟩
  rcases List.mem_append.mp z with z | z
  · exact absurd z n
  · rw [List.mem_singleton.mp z]; exact h
theorem SRel.stored (s : SRel K fa x m H S) {p : Addr} {vs : List V} {xs : List D} (h : H p = none) (r : RepL K fa (fz (m ++ x) H) vs xs) : SRel K fa x (m ++ [p]) (upd H p (.lst vs)) (S ++ [.lst xs]) := by
  obtain ⟨o1, o2⟩ := s.off h
  refine ⟨?_, by simp [s.len], fun i a c e1 e2 => ?_, fun a ha => ?_⟩
  · have nd := s.nd
    rw [List.append_assoc]
    rw [List.nodup_append] at nd ⊢
    refine ⟨nd.1, ?_, fun a ha b hb => ?_⟩
    · rw [List.singleton_append, List.nodup_cons]
      exact ⟨o2, nd.2.1⟩
    · rw [List.singleton_append, List.mem_cons] at hb
      rcases hb with rfl | hb
      · exact fun z => o1 (z ▸ ha)
      · exact nd.2.2 a ha b hb
  · by_cases hi : i < m.length
    · rw [List.getElem?_append_left hi] at e1
      rw [List.getElem?_append_left (by rw [← s.len]; exact hi)] at e2
      have hm : a ∈ m := List.mem_of_getElem? e1
      exact cell_step (Step.stored h) (s.cell i a c e1 e2) (upd_ne fun z => o1 (z ▸ hm))
    · rw [List.getElem?_append_right (by omega)] at e1
      rw [List.getElem?_append_right (by rw [← s.len]; omega), ← s.len] at e2
      have h0 : i - m.length = 0 := by
        have := (List.getElem?_eq_some_iff.mp e1).1
        simp at this
        omega
      rw [h0] at e1 e2
      simp at e1 e2
      subst e1 e2
      exact ⟨vs, upd_same, RepL.mono (Step.stored h).fz xs vs r⟩
  · rw [upd_ne (fun (z : a = p) => o2 (z ▸ ha))]
    exact s.there a ha
theorem fin_use {Q : VK} {mu : Bool} {xs : List D} {vs : List V} (h : After K fa x m H sg Wx (relW K fa) Q (fin mu xs S)) (s : SRel K fa x m H S) (r : RepL K fa (fz (m ++ x) H) vs xs) (p : Addr) (hp : H p = none) : Q (.ref p) (upd H p (.lst vs)) := by
  unfold fin at h
  split at h
  · exact h (.ref p) (m ++ [p]) _ (Step.stored hp) (s.stored hp r) ⟨p, by rw [← s.len]; simp, rfl⟩
  · obtain ⟨o1, o2⟩ := s.off hp
    exact h (.ref p) m _ (Step.laid hp) (s.laid hp) (.lst (.inl (.inl (fz_of (fun z => (List.mem_append.mp z).elim o1 o2) upd_same))) (RepL.mono (Step.laid hp).fz xs vs r))
theorem tup_use {Q : VK} {xs : List D} {vs : List V} (h : After K fa x m H sg Wx (relW K fa) Q (.ok (.d (.tup xs)) S)) (s : SRel K fa x m H S) (r : RepL K fa (fz (m ++ x) H) vs xs) (p : Addr) (hp : H p = none) : Q (.ref p) (upd H p (.tup vs)) := by
  obtain ⟨o1, o2⟩ := s.off hp
  exact h (.ref p) m _ (Step.laid hp) (s.laid hp) (.tup (.inl (.inl (fz_of (fun z => (List.mem_append.mp z).elim o1 o2) upd_same))) (RepL.mono (Step.laid hp).fz xs vs r))
theorem ok_use {Q : VK} {d : D} {v : V} (h : After K fa x m H sg Wx (relW K fa) Q (.ok (.d d) S)) (s : SRel K fa x m H S) (r : Rep K fa (fz (m ++ x) H) v d) : Q v H := h.ok s r
theorem rep_val (s : SRel K fa x m H S) {v : V} {w : W} {d : D} (r : RepW K fa (fz (m ++ x) H) m v w) (e : valD S w = some d) : Rep K fa H v d := by
  cases w with
  | l => exact nomatch (show (none : Option D) = some _ from e)
  | d y =>
    have e' : y = d := Option.some.inj e
    subst e'
    exact Rep.mono fz_sub y v r
  | r n =>
    obtain ⟨a, ha, rfl⟩ := r
    unfold valD at e
    cases q : S[n]? with
    | none => simp only [q] at e; cases e
    | some c =>
      cases c with
      | lst xs =>
        simp only [q] at e
        cases e
        obtain ⟨vs, h1, h2⟩ := s.cell n a _ ha q
        exact .lst (.inl (.inl h1)) (RepL.mono fz_sub xs vs h2)
      | set xs => simp only [q] at e; cases e
      | tab q' => simp only [q] at e; cases e
      | dk q' => simp only [q] at e; cases e
      | dn q' => simp only [q] at e; cases e
      | obj q' q'' => simp only [q] at e; cases e
theorem rep_lst (s : SRel K fa x m H S) {v : V} {w : W} {xs : List D} (r : RepW K fa (fz (m ++ x) H) m v w) (e : valD S w = some (.lst xs)) : ∃ a vs, v = .ref a ∧ SqL K H a vs ∧ RepL K fa (fz (m ++ x) H) vs xs := by
  cases w with
  | l => exact nomatch (show (none : Option D) = some _ from e)
  | d y =>
    have e' : y = .lst xs := Option.some.inj e
    subst e'
    cases r with
    | lst h1 h2 => exact ⟨_, _, rfl, fz_sub.seq h1, h2⟩
  | r n =>
    obtain ⟨a, ha, rfl⟩ := r
    unfold valD at e
    cases q : S[n]? with
    | none => simp only [q] at e; cases e
    | some c =>
      cases c with
      | lst ys =>
        simp only [q] at e
        cases e
        obtain ⟨vs, h1, h2⟩ := s.cell n a _ ha q
        exact ⟨a, vs, rfl, .inl (.inl h1), h2⟩
      | set xs => simp only [q] at e; cases e
      | tab q' => simp only [q] at e; cases e
      | dk q' => simp only [q] at e; cases e
      | dn q' => simp only [q] at e; cases e
      | obj q' q'' => simp only [q] at e; cases e
theorem rep_tup (s : SRel K fa x m H S) {v : V} {w : W} {xs : List D} (r : RepW K fa (fz (m ++ x) H) m v w) (e : valD S w = some (.tup xs)) : ∃ a vs, v = .ref a ∧ SqT K H a vs ∧ RepL K fa (fz (m ++ x) H) vs xs := by
  cases w with
  | l => exact nomatch (show (none : Option D) = some _ from e)
  | d y =>
    have e' : y = .tup xs := Option.some.inj e
    subst e'
    cases r with
    | tup h1 h2 => exact ⟨_, _, rfl, same_sqt fz_sub h1, h2⟩
  | r n =>
    obtain ⟨a, ha, rfl⟩ := r
    unfold valD at e
    cases q : S[n]? with
    | none => simp only [q] at e; cases e
    | some c =>
      cases c with
      | lst ys => simp only [q] at e; cases e
      | set xs => simp only [q] at e; cases e
      | tab q' => simp only [q] at e; cases e
      | dk q' => simp only [q] at e; cases e
      | dn q' => simp only [q] at e; cases e
      | obj q' q'' => simp only [q] at e; cases e
theorem rep_int (s : SRel K fa x m H S) {v : V} {w : W} {i : Int} (r : RepW K fa (fz (m ++ x) H) m v w) (e : valD S w = some (.int i)) : v = .int i := by
  cases rep_val s r e; rfl
theorem rep_str (s : SRel K fa x m H S) {v : V} {w : W} {i : Str} (r : RepW K fa (fz (m ++ x) H) m v w) (e : valD S w = some (.str i)) : v = .str i := by
  cases rep_val s r e; rfl
theorem rep_bl (s : SRel K fa x m H S) {v : V} {w : W} {i : Bool} (r : RepW K fa (fz (m ++ x) H) m v w) (e : valD S w = some (.bl i)) : v = .bl i := by
  cases rep_val s r e; rfl
theorem rep_dp (s : SRel K fa x m H S) {v : V} {w : W} {d : D} (r : RepW K fa (fz (m ++ x) H) m v w) (e : valD S w = some d) (p : d.pure = true) : Dp K H v d.pd := Rep.dp d v (rep_val s r e) p
end
theorem sl16 : (16777216 : Nat) = sizeLine := by rw [sizeLine_eq]

/-! ### binary operators -/
section
variable {X : Cx} {fa : FA}
/-- list + list, whatever holds them -/
def rCatS (K : PySem.W.Frag) : R2 := fun x y H Q => ∃ l b xs zs, x = .ref l ∧ y = .ref b ∧ SqL K H l xs ∧ SqL K H b zs ∧ xs.length + zs.length ≤ sizeLine ∧ ∀ p, H p = none → Q (.ref p) (upd H p (.lst (xs ++ zs)))
theorem op_catS : OpR X (binaryOp .Add) (rCatS X.K) := by
  intro pins s sg H x y v u Q I rx ry h
  obtain ⟨l, b, xs, zs, rfl, rfl, hl, hb, hz, q⟩ := h
  cases rx
  cases ry
  obtain ⟨its, r1, p1, _⟩ := I.list hl
  obtain ⟨its2, r2, p2, _⟩ := I.list hb
  obtain ⟨o1, n1, g1, c1, d1, t1⟩ := p1
  obtain ⟨o2, n2, g2, c2, d2, t2⟩ := p2
  obtain ⟨oc1, od1, dt1, sl1⟩ := o1
  obtain ⟨oc2, od2, dt2, sl2⟩ := o2
  simp only at c1 d1 t1 c2 d2 t2
  subst c1 d1 t1 c2 d2 t2
  have hl1 := r1.length
  have hl2 := r2.length
  refine concat_meets ⟨_, g1, rfl⟩ ⟨_, g2, rfl⟩ noFill_list_add seq_list_add PySem.F.slot_list_add PySem.F.entry_list_add (PySem.F.args_list_add_2 _ _) (list_addW l b _ _ n1 n2 _ _ sl1 sl2 (by rw [List.size_toArray, List.size_toArray]; omega)) ⟨g1, g2, ?_⟩
  have ea : its.toArray ++ its2.toArray = (its ++ its2).toArray := by simp
  rw [ea]
  exact ⟨.ref _, _, I.lnew (t' := s.toks) (r1.append r2) (by rw [List.length_append]; exact hz), rfl, q _ I.fresh⟩

def rAddA (K : PySem.W.Frag) : R2 := fun x y H Q => rI0 (fun i j => .int (i + j)) x y H Q ∨ ((∃ i j, x = .str i ∧ y = .str j ∧ i.length + j.length ≤ sizeLine ∧ Q (.str (i ++ j)) H) ∨ (rCatA K x y H Q ∨ rCatS K x y H Q))
theorem op_addA : OpR X (binaryOp .Add) (rAddA X.K) := OpR.or op_add (OpR.or op_add_str (OpR.or op_catA op_catS))
def gAdd (mu : Bool) (a b : W) (S : Stor) : Res W := match valD S a, valD S b with
  | some (.int i), some (.int j) => .ok (.d (.int (i + j))) S
  | some (.str x), some (.str y) => if x.length + y.length ≤ 16777216 then .ok (.d (.str (x ++ y))) S else .bad
  | some (.tup x), some (.tup y) => if x.length + y.length ≤ 16777216 then .ok (.d (.tup (x ++ y))) S else .bad
  | some (.lst x), some (.lst y) => if x.length + y.length ≤ 16777216 then fin mu (x ++ y) S else .bad
  | _, _ => .bad
theorem addD (mu : Bool) : OpD X fa (rAddA X.K) (gAdd mu) := by
  intro x m H S sg Wx v u a b Q s ra rb h
  unfold gAdd at h
  split at h
  · rename_i i j ea eb
    exact .inl ⟨i, j, rep_int s ra ea, rep_int s rb eb, ok_use h s (.int _)⟩
  · rename_i i j ea eb
    split at h
    · rename_i hz
      exact .inr (.inl ⟨i, j, rep_str s ra ea, rep_str s rb eb, by rw [← sl16]; exact hz, ok_use h s (.str _)⟩)
    · exact h.elim
  · rename_i xs ys ea eb
    split at h
    · rename_i hz
      obtain ⟨p, vs, rfl, hp, rp⟩ := rep_tup s ra ea
      obtain ⟨q, us, rfl, hq, rq⟩ := rep_tup s rb eb
      have l1 := rp.length
      have l2 := rq.length
      have rr := rp.app rq
      refine .inr (.inr (.inl ⟨p, q, vs, us, rfl, rfl, hp, hq, by rw [l1, l2, ← sl16]; exact hz, fun e => ?_, fun _ e => ?_, fun _ _ r hr => tup_use h s rr r hr⟩))
      · subst e
        cases rp
        have rb' : RepW X.K fa (fz (m ++ x) H) m (.ref q) (.d (.tup ys)) := by
          cases b with
          | l => exact nomatch (show (none : Option D) = some _ from eb)
          | d y => cases (show some y = some (D.tup ys) from eb); exact rb
          | r n =>
            unfold valD at eb
            cases z : S[n]? with
            | none => simp only [z] at eb; cases eb
            | some c => cases c <;> (simp only [z] at eb; cases eb)
        exact ok_use h s rb'
      · subst e
        cases rq
        have ra' : RepW X.K fa (fz (m ++ x) H) m (.ref p) (.d (.tup xs)) := by
          cases a with
          | l => exact nomatch (show (none : Option D) = some _ from ea)
          | d y => cases (show some y = some (D.tup xs) from ea); exact ra
          | r n =>
            unfold valD at ea
            cases z : S[n]? with
            | none => simp only [z] at ea; cases ea
            | some c => cases c <;> (simp only [z] at ea; cases ea)
        rw [List.append_nil] at h
        exact ok_use h s ra'
    · exact h.elim
  · rename_i xs ys ea eb
    split at h
    · rename_i hz
      obtain ⟨p, vs, rfl, hp, rp⟩ := rep_lst s ra ea
      obtain ⟨q, us, rfl, hq, rq⟩ := rep_lst s rb eb
      exact .inr (.inr (.inr ⟨p, q, vs, us, rfl, rfl, hp, hq, by rw [rp.length, rq.length, ← sl16]; exact hz, fun r hr => fin_use h s (rp.app rq) r hr⟩))
    · exact h.elim
  · exact h.elim

/-- two ints to a value -/
def gII (c : Int → Int → Bool) (f : Int → Int → D) (a b : W) (S : Stor) : Res W := match valD S a, valD S b with
  | some (.int i), some (.int j) => if c i j = true then .ok (.d (f i j)) S else .bad
  | _, _ => .bad
theorem iiD {P : Int → Int → Prop} {g : Int → Int → V} {c : Int → Int → Bool} {f : Int → Int → D} (hc : ∀ i j, c i j = true → P i j) (hf : ∀ F i j, Rep X.K fa F (g i j) (f i j)) : OpD X fa (rI P g) (gII c f) := by
  intro x m H S sg Wx v u a b Q s ra rb h
  unfold gII at h
  split at h
  · rename_i i j ea eb
    split at h
    · rename_i hh
      exact ⟨i, j, rep_int s ra ea, rep_int s rb eb, hc i j hh, ok_use h s (hf _ i j)⟩
    · exact h.elim
  · exact h.elim
theorem iiD0 {g : Int → Int → V} {f : Int → Int → D} (hf : ∀ F i j, Rep X.K fa F (g i j) (f i j)) : OpD X fa (rI0 g) (gII (fun _ _ => true) f) := by
  intro x m H S sg Wx v u a b Q s ra rb h
  unfold gII at h
  split at h
  · rename_i i j ea eb
    rw [if_pos rfl] at h
    exact ⟨i, j, rep_int s ra ea, rep_int s rb eb, ok_use h s (hf _ i j)⟩
  · exact h.elim
abbrev gSub := gII (fun _ _ => true) fun i j => .int (i - j)
theorem subD : OpD X fa (rI0 fun i j => .int (i - j)) gSub := iiD0 fun _ _ _ => .int _
abbrev gMul := gII (fun i j => (decide (-(2 ^ 64) < i) && decide (i < 2 ^ 64)) || (decide (-(2 ^ 64) < j) && decide (j < 2 ^ 64))) fun i j => .int (i * j)
theorem mulD : OpD X fa (rI CMul fun i j => .int (i * j)) gMul := iiD (fun i j h => by
  rw [Bool.or_eq_true, Bool.and_eq_true, Bool.and_eq_true, decide_eq_true_eq, decide_eq_true_eq, decide_eq_true_eq, decide_eq_true_eq] at h
  exact h) fun _ _ _ => .int _
abbrev gMod := gII (fun _ j => decide (j ≠ 0)) fun i j => .int (i.fmod j)
theorem modD : OpD X fa (rI (fun _ j => j ≠ 0) fun i j => .int (i.fmod j)) gMod := iiD (fun i j h => of_decide_eq_true h) fun _ _ _ => .int _
abbrev gDiv := gII (fun _ j => decide (j ≠ 0) && decide (j.natAbs < 1073741824)) fun i j => .int (i.fdiv j)
theorem divD : OpD X fa (rI CDivN fun i j => .int (i.fdiv j)) gDiv := iiD (fun i j h => by
  rw [Bool.and_eq_true, decide_eq_true_eq, decide_eq_true_eq] at h
  exact h) fun _ _ _ => .int _
abbrev gPow := gII (fun i j => decide (0 ≤ j) && (decide (j ≤ 1000000) && decide (i.natAbs < 2 ^ 64))) fun i j => .int (i ^ j.toNat)
theorem powD : OpD X fa (rI CPow fun i j => .int (i ^ j.toNat)) gPow := iiD (fun i j h => by
  rw [Bool.and_eq_true, Bool.and_eq_true, decide_eq_true_eq, decide_eq_true_eq, decide_eq_true_eq] at h
  exact h) fun _ _ _ => .int _
abbrev gLt := gII (fun _ _ => true) fun i j => .bl (decide (i < j))
abbrev gLe := gII (fun _ _ => true) fun i j => .bl (decide (i ≤ j))
abbrev gGt := gII (fun _ _ => true) fun i j => .bl (decide (j < i))
abbrev gGe := gII (fun _ _ => true) fun i j => .bl (decide (j ≤ i))
theorem ltD : OpD X fa (rI0 fun i j => .bl (decide (i < j))) gLt := iiD0 fun _ _ _ => .bl _
theorem leD : OpD X fa (rI0 fun i j => .bl (decide (i ≤ j))) gLe := iiD0 fun _ _ _ => .bl _
theorem gtD : OpD X fa (rI0 fun i j => .bl (decide (j < i))) gGt := iiD0 fun _ _ _ => .bl _
theorem geD : OpD X fa (rI0 fun i j => .bl (decide (j ≤ i))) gGe := iiD0 fun _ _ _ => .bl _

/-! ### == and != -/
def gEq (neg : Bool) (a b : W) (S : Stor) : Res W := match valD S a, valD S b with
  | some x, some y => if (okD x && okD y) = true then .ok (.d (.bl (neg ^^ PyData.eqv x.pd y.pd))) S else .bad
  | _, _ => .bad
theorem eqD : OpD X fa (rEqD X.K) (gEq false) := by
  intro x m H S sg Wx v u a b Q s ra rb h
  unfold gEq at h
  split at h
  · rename_i d e ea eb
    split at h
    · rename_i hh
      unfold okD at hh
      simp only [Bool.and_eq_true] at hh
      refine ⟨d.pd, e.pd, rep_dp s ra ea hh.1.1, rep_dp s rb eb hh.2.1, hh.1.2, hh.2.2, ?_⟩
      rw [Bool.false_xor] at h
      exact ok_use h s (.bl _)
    · exact h.elim
  · exact h.elim
theorem neD : OpD X fa (rNeD X.K) (gEq true) := by
  intro x m H S sg Wx v u a b Q s ra rb h
  unfold gEq at h
  split at h
  · rename_i d e ea eb
    split at h
    · rename_i hh
      unfold okD at hh
      simp only [Bool.and_eq_true] at hh
      refine ⟨d.pd, e.pd, rep_dp s ra ea hh.1.1, rep_dp s rb eb hh.2.1, hh.1.2, hh.2.2, ?_⟩
      rw [Bool.true_xor] at h
      exact ok_use h s (.bl _)
    · exact h.elim
  · exact h.elim
/-- x in t, t a tuple or a list -/
def rInA (K : PySem.W.Frag) (neg : Bool) : R2 := fun x y H Q => ∃ d ds, Dp K H x d ∧ (Dp K H y (.list ds) ∨ Dp K H y (.tuple ds)) ∧ SeqAt.shaped d = true ∧ SeqAt.shaped (.list ds) = true ∧ Q (.bl (neg ^^ ds.any fun z => PyData.eqv z d)) H
theorem shaped_tup {ds : List PyData} (h : SeqAt.shaped (.list ds) = true) : SeqAt.shaped (.tuple ds) = true := by
  unfold SeqAt.shaped at h ⊢
  simp only [PyData.canLay0, PyData.depth] at h ⊢
  exact h
theorem op_inA (hu : X.A.units + 65 < cLine) : OpR X (compareOp .In) (rInA X.K false) := by
  intro pins s sg H x y v u Q I rx ry h
  obtain ⟨d, ds, hd, he, sd, se, q⟩ := h
  rw [Bool.false_xor] at q
  obtain ⟨as, r1⟩ := Dp.reads I d x v hd rx
  rcases he with he | he
  · obtain ⟨bs, r2⟩ := Dp.reads I (.list ds) y u he ry
    exact SeqAt.in_list_reads r2 r1 (SeqAt.canLay_of_shaped se) (SeqAt.canLay_of_shaped sd) (room_in_shaped sd hu) ⟨.bl _, H, I, rfl, q⟩
  · obtain ⟨bs, r2⟩ := Dp.reads I (.tuple ds) y u he ry
    exact SeqAt.in_tuple_reads r2 r1 (SeqAt.canLay_of_shaped se) (SeqAt.canLay_of_shaped sd) (room_in_shaped sd hu) ⟨.bl _, H, I, rfl, q⟩
theorem op_notInA (hu : X.A.units + 65 < cLine) : OpR X (compareOp .NotIn) (rInA X.K true) := by
  intro pins s sg H x y v u Q I rx ry h
  obtain ⟨d, ds, hd, he, sd, se, q⟩ := h
  rw [Bool.true_xor] at q
  obtain ⟨as, r1⟩ := Dp.reads I d x v hd rx
  rcases he with he | he
  · obtain ⟨bs, r2⟩ := Dp.reads I (.list ds) y u he ry
    exact SeqAt.notIn_list_reads r2 r1 (SeqAt.canLay_of_shaped se) (SeqAt.canLay_of_shaped sd) (room_in_shaped sd hu) ⟨.bl _, H, I, rfl, q⟩
  · obtain ⟨bs, r2⟩ := Dp.reads I (.tuple ds) y u he ry
    exact SeqAt.notIn_tuple_reads r2 r1 (SeqAt.canLay_of_shaped se) (SeqAt.canLay_of_shaped sd) (room_in_shaped sd hu) ⟨.bl _, H, I, rfl, q⟩
def gIn (neg : Bool) (a b : W) (S : Stor) : Res W := match valD S a, valD S b with
  | some x, some (.lst ys) => if (okD x && okD (.lst ys)) = true then .ok (.d (.bl (neg ^^ ys.any fun z => PyData.eqv z.pd x.pd))) S else .bad
  | some x, some (.tup ys) => if (okD x && okD (.lst ys)) = true then .ok (.d (.bl (neg ^^ ys.any fun z => PyData.eqv z.pd x.pd))) S else .bad
  | _, _ => .bad
theorem inD (neg : Bool) : OpD X fa (rInA X.K neg) (gIn neg) := by
  intro x m H S sg Wx v u a b Q s ra rb h
  unfold gIn at h
  split at h
  · rename_i d ys ea eb
    split at h
    · rename_i hh
      unfold okD at hh
      simp only [Bool.and_eq_true] at hh
      have e1 : (D.lst ys).pd = .list (pds ys) := by rw [D.pd]
      refine ⟨d.pd, pds ys, rep_dp s ra ea hh.1.1, .inl (by rw [← e1]; exact rep_dp s rb eb hh.2.1), hh.1.2, by rw [← e1]; exact hh.2.2, ?_⟩
      rw [pds_map, List.any_map]
      exact ok_use h s (.bl _)
    · exact h.elim
  · rename_i d ys ea eb
    split at h
    · rename_i hh
      unfold okD at hh
      simp only [Bool.and_eq_true] at hh
      have e1 : (D.lst ys).pd = .list (pds ys) := by rw [D.pd]
      have e2 : (D.tup ys).pd = .tuple (pds ys) := by rw [D.pd]
      have p2 : (D.tup ys).pure = true := by
        have h3 := hh.2.1
        simp only [D.pure] at h3 ⊢
        exact h3
      refine ⟨d.pd, pds ys, rep_dp s ra ea hh.1.1, .inr (by rw [← e2]; exact rep_dp s rb eb p2), hh.1.2, by rw [← e1]; exact hh.2.2, ?_⟩
      rw [pds_map, List.any_map]
      exact ok_use h s (.bl _)
    · exact h.elim
  · exact h.elim
/-- is of bools, of None -/
def D.isNon : D → Bool
  | .non => true
  | _ => false
def gIs (neg : Bool) (a b : W) (S : Stor) : Res W := match valD S a, valD S b with
  | some (.bl x), some (.bl y) => .ok (.d (.bl (neg ^^ decide (x = y)))) S
  | some x, some .non => .ok (.d (.bl (neg ^^ x.isNon))) S
  | _, _ => .bad
theorem rep_none {K : PySem.W.Frag} {F : Hp} {v : V} {d : D} (r : Rep K fa F v d) : decide (v = .non) = d.isNon := by
  cases r <;> rfl
theorem isD : OpD X fa (fun x y H Q => rIsB x y H Q ∨ (y = .non ∧ Q (.bl (decide (x = .non))) H)) (gIs false) := by
  intro x m H S sg Wx v u a b Q s ra rb h
  unfold gIs at h
  split at h
  · rename_i d e ea eb
    rw [Bool.false_xor] at h
    exact .inl ⟨d, e, rep_bl s ra ea, rep_bl s rb eb, ok_use h s (.bl _)⟩
  · rename_i d _ ea eb
    rw [Bool.false_xor] at h
    cases rep_val s rb eb
    refine .inr ⟨rfl, ?_⟩
    rw [rep_none (rep_val s ra ea)]
    exact ok_use h s (.bl _)
  · exact h.elim
theorem isNotD : OpD X fa (fun x y H Q => rNotB x y H Q ∨ (y = .non ∧ Q (.bl (!decide (x = .non))) H)) (gIs true) := by
  intro x m H S sg Wx v u a b Q s ra rb h
  unfold gIs at h
  split at h
  · rename_i d e ea eb
    rw [Bool.true_xor] at h
    exact .inl ⟨d, e, rep_bl s ra ea, rep_bl s rb eb, ok_use h s (.bl _)⟩
  · rename_i d _ ea eb
    rw [Bool.true_xor] at h
    cases rep_val s rb eb
    refine .inr ⟨rfl, ?_⟩
    rw [rep_none (rep_val s ra ea)]
    exact ok_use h s (.bl _)
  · exact h.elim

/-! ### subscripts -/
def gIx (a b : W) (S : Stor) : Res W := match valD S a, valD S b with
  | some (.lst xs), some (.int i) => match atI xs i with
    | some d => .ok (.d d) S
    | none => .bad
  | some (.tup xs), some (.int i) => match atI xs i with
    | some d => .ok (.d d) S
    | none => .bad
  | some (.str z), some (.int i) => if z.length ≤ 16777216 then match atI z.cps.toList i with
      | some c => .ok (.d (.str ⟨#[c]⟩)) S
      | none => .bad
    else .bad
  | _, _ => .bad
theorem atI_rep {K : PySem.W.Frag} {F : Hp} {vs : List V} {xs : List D} {i : Int} {d : D} (r : RepL K fa F vs xs) (h : atI xs i = some d) : ∃ v, atI vs i = some v ∧ Rep K fa F v d := by
  unfold atI at h ⊢
  rw [r.length]
  cases q : ixN xs.length i with
  | none => rw [q] at h; cases h
  | some j =>
    rw [q] at h
    exact r.get h
theorem ixD : OpD X fa (rIx X.K) gIx := by
  intro x m H S sg Wx v u a b Q s ra rb h
  unfold gIx at h
  split at h
  · rename_i xs i ea eb
    split at h
    · rename_i d hd
      obtain ⟨p, vs, rfl, hp, rp⟩ := rep_lst s ra ea
      obtain ⟨z, hz, rz⟩ := atI_rep rp hd
      exact .inl ⟨p, vs, i, z, rfl, rep_int s rb eb, hp, hz, ok_use h s rz⟩
    · exact h.elim
  · rename_i xs i ea eb
    split at h
    · rename_i d hd
      obtain ⟨p, vs, rfl, hp, rp⟩ := rep_tup s ra ea
      obtain ⟨z, hz, rz⟩ := atI_rep rp hd
      exact .inr (.inl ⟨p, vs, i, z, rfl, rep_int s rb eb, hp, hz, ok_use h s rz⟩)
    · exact h.elim
  · rename_i z i ea eb
    split at h
    · rename_i hz
      split at h
      · rename_i c hd
        exact .inr (.inr ⟨z, i, c, rep_str s ra ea, rep_int s rb eb, by rw [← sl16]; exact hz, hd, ok_use h s (.str _)⟩)
      · exact h.elim
    · exact h.elim
  · exact h.elim
end
end DL
namespace DL
open PySem PySem.Spec PyProof.Rows L2

/-! ### readings one behind another, in general -/
abbrev Rl (β α : Type) := Hp → List Addr → β → α → Prop
def Stb {β α : Type} (rel : Rl β α) : Prop := ∀ (x m m' : List Addr) (H H' : Hp) (v : β) (a : α), Step m H m' H' → rel (fz (m ++ x) H) m v a → rel (fz (m' ++ x) H') m' v a
section
variable {K : PySem.W.Frag} {fa : FA} {Wx : WX}
theorem stbW : Stb (relW K fa) := fun _ _ _ _ _ _ _ s r => RepW.step s r
theorem stbWs : Stb (fun F m vs ws => RepWs K fa F m vs ws) := fun _ _ _ _ _ _ _ s r => RepWs.step s r
theorem stbB : Stb relB := fun _ _ _ _ _ _ _ _ r => r

variable {α β γ δ ε ζ : Type} {r1 : Rl β α} {r2 : Rl δ γ} {r3 : Rl ζ ε}
theorem T.one {ta : L2.St → Hp → (β → Hp → Prop) → Prop} {f : Den α} {g : Rho → α → Stor → Res ε} {sg : L2.St} {H : Hp} {R : β → Hp → Prop} {Q : ζ → Hp → Prop} (ha : ∀ sg H Q, T K fa Wx r1 f sg H Q → ta sg H Q)
    (k : ∀ x m H S v a rho, At K fa x m sg H rho S → r1 (fz (m ++ x) H) m v a → After K fa x m H sg Wx r3 Q (g rho a S) → R v H)
    (h : T K fa Wx r3 (fun rho S => (f rho S).bind (g rho)) sg H Q) : ta sg H R := by
  obtain ⟨x, m, rho, S, at_, q⟩ := h
  refine ha sg H _ ⟨x, m, rho, S, at_, ?_⟩
  have q1 := After.then (rel := r1) q
  revert q1
  cases f rho S with
  | bad => exact id
  | exc e S1 => exact id
  | ok w1 S1 =>
    intro q1 v m1 H1 s1 t1 rw1
    obtain ⟨m1', w1', S1', t1, u1, rw1', q2⟩ := q1 v m1 H1 s1 t1 rw1
    exact k x m1' H1 S1' v w1' rho (at_.step t1 u1) rw1' q2
theorem T.duo (st : Stb r1) {ta : L2.St → Hp → (β → Hp → Prop) → Prop} {tb : L2.St → Hp → (δ → Hp → Prop) → Prop} {f : Den α} {f' : Den γ} {g : Rho → α → γ → Stor → Res ε} {sg : L2.St} {H : Hp} {R : β → δ → Hp → Prop} {Q : ζ → Hp → Prop}
    (ha : ∀ sg H Q, T K fa Wx r1 f sg H Q → ta sg H Q) (hb : ∀ sg H Q, T K fa Wx r2 f' sg H Q → tb sg H Q)
    (k : ∀ x m H S v u a b rho, At K fa x m sg H rho S → r1 (fz (m ++ x) H) m v a → r2 (fz (m ++ x) H) m u b → After K fa x m H sg Wx r3 Q (g rho a b S) → R v u H)
    (h : T K fa Wx r3 (fun rho S => (f rho S).bind fun a S1 => (f' rho S1).bind fun b S2 => g rho a b S2) sg H Q) : ta sg H fun v H1 => tb sg H1 fun u H2 => R v u H2 := by
  refine T.one (r3 := r3) (g := fun rho a S1 => (f' rho S1).bind fun b S2 => g rho a b S2) ha (fun x m H1 S v a rho at_ ra q => ?_) h
  refine hb sg H1 _ ⟨x, m, rho, S, at_, ?_⟩
  have q1 := After.then (rel := r2) q
  revert q1
  cases f' rho S with
  | bad => exact id
  | exc e S1 => exact id
  | ok w1 S1 =>
    intro q1 u m2 H2 s2 t2 rw2
    obtain ⟨m2', w2', S2', t2, u2, rw2', q2⟩ := q1 u m2 H2 s2 t2 rw2
    exact k x m2' H2 S2' v u a w2' rho (at_.step t2 u2) (st x m m2' H1 H2 v a t2 ra) rw2' q2
end

/-! ### argument lists -/
def dNil : Den (List W) := fun _ S => .ok [] S
def dCons (f : Den W) (g : Den (List W)) : Den (List W) := fun rho S => (f rho S).bind fun w S1 => (g rho S1).bind fun ws S2 => .ok (w :: ws) S2
section
variable {X : Cx} {fa : FA} {Wx : WX} {pos : Pos} {e a b c : Expr} {es : List Expr} {f f' f'' : Den W} {fs : Den (List W)}
theorem da_nil : DA X fa Wx [] dNil := by
  refine PA.imp pa_nil fun sg H Q ⟨x, m, rho, S, a, q⟩ => ?_
  exact (show After _ _ _ _ _ _ _ _ _ (Res.ok ([] : List W) S) from q).ok a.s .nil
theorem da_cons (ha : DE X fa Wx e f) (hr : DA X fa Wx es fs) (hs : starEach (e :: es) X.env = (false, eval e X.env) :: starEach es X.env := by rfl) : DA X fa Wx (e :: es) (dCons f fs) := by
  refine PA.imp (pa_cons ha hr hs) fun sg H Q h => ?_
  exact T.duo (r3 := fun F m vs ws => RepWs X.K fa F m vs ws) (g := fun _ w ws S2 => .ok (w :: ws) S2) stbW (fun _ _ _ q => q) (fun _ _ _ q => q) (fun x m H S v u a b rho at_ ra rb q => q.ok at_.s (.cons ra rb)) h
/-- *e in a display -/
def dStar (f : Den W) (g : Den (List W)) : Den (List W) := fun rho S => (f rho S).bind fun w S1 => (g rho S1).bind fun ws S2 => match valD S1 w with
  | some (.lst xs) => .ok (xs.map W.d ++ ws) S2
  | some (.tup xs) => .ok (xs.map W.d ++ ws) S2
  | _ => .bad

/-! ### displays -/
def asDs : List W → Option (List D)
  | [] => some []
  | .d x :: ws => (asDs ws).map (x :: ·)
  | .r _ :: _ => none
  | .l :: _ => none
theorem asDs_rep {K : PySem.W.Frag} {F : Hp} {m : List Addr} : ∀ {ws : List W} {vs : List V} {ds : List D}, asDs ws = some ds → RepWs K fa F m vs ws → RepL K fa F vs ds
  | [], _, _, e, .nil => by cases e; exact .nil
  | .d x :: ws, _, ds, e, .cons h r => by
    unfold asDs at e
    cases q : asDs ws with
    | none => rw [q] at e; cases e
    | some es =>
      rw [q] at e
      cases e
      exact .cons h (asDs_rep q r)
  | .l :: _, _, _, e, _ => by unfold asDs at e; cases e
  | .r _ :: _, _, _, e, _ => by unfold asDs at e; cases e
def dTup (fs : Den (List W)) : Den W := fun rho S => (fs rho S).bind fun ws S1 => match asDs ws with
  | some ds => if ds.length ≤ 16777216 then .ok (.d (.tup ds)) S1 else .bad
  | none => .bad
def dLst (mu : Bool) (fs : Den (List W)) : Den W := fun rho S => (fs rho S).bind fun ws S1 => match asDs ws with
  | some ds => if ds.length ≤ 16777216 then fin mu ds S1 else .bad
  | none => .bad
theorem de_tup {k} (h : DA X fa Wx es fs) : DE X fa Wx (.Tuple es k pos) (dTup fs) := by
  refine PE.imp (pe_tup h) fun sg H Q hq => ?_
  show T X.K fa Wx (fun F m vs ws => RepWs X.K fa F m vs ws) fs sg H _
  refine T.one (r3 := relW X.K fa) (fun _ _ _ q => q) (fun x m H S v a rho at_ ra q => ?_) hq
  split at q
  · rename_i ds ed
    split at q
    · rename_i hz
      have r := asDs_rep ed ra
      exact ⟨by rw [r.length, ← sl16]; exact hz, fun p hp => tup_use q at_.s r p hp⟩
    · exact q.elim
  · exact q.elim
theorem de_lst (mu : Bool) (h : DA X fa Wx es fs) : DE X fa Wx (.List es pos) (dLst mu fs) := by
  refine PE.imp (pe_lst h) fun sg H Q hq => ?_
  show T X.K fa Wx (fun F m vs ws => RepWs X.K fa F m vs ws) fs sg H _
  refine T.one (r3 := relW X.K fa) (fun _ _ _ q => q) (fun x m H S v a rho at_ ra q => ?_) hq
  split at q
  · rename_i ds ed
    split at q
    · rename_i hz
      have r := asDs_rep ed ra
      exact ⟨by rw [r.length, ← sl16]; exact hz, fun p hp => fin_use q at_.s r p hp⟩
    · exact q.elim
  · exact q.elim

/-! ### operators, again in general -/
theorem de_un {op : UnaryOp} {r : V → Hp → VK → Prop} {g : W → Stor → Res W} (ho : UnR X (unaryOp op) r) (k : UnD X fa r g) (ha : DE X fa Wx a f) : DE X fa Wx (.UnaryOp op a pos) (dUn g f) := by
  refine PE.imp (pe_un ho ha) fun sg H Q hq => ?_
  show T X.K fa Wx (relW X.K fa) f sg H _
  exact T.one (r3 := relW X.K fa) (g := fun _ => g) (fun _ _ _ q => q) (fun x m H S v a rho at_ ra q => k x m H S sg Wx v a Q at_.s ra q) hq
def gNeg (a : W) (S : Stor) : Res W := match valD S a with
  | some (.int i) => .ok (.d (.int (-i))) S
  | _ => .bad
theorem negD : UnD X fa (rU fun i => .int (-i)) gNeg := by
  intro x m H S sg Wx v a Q s ra h
  unfold gNeg at h
  split at h
  · rename_i i ea
    exact ⟨i, rep_int s ra ea, ok_use h s (.int _)⟩
  · exact h.elim
theorem de_ix (ha : DE X fa Wx a f) (hb : DE X fa Wx b f') (hs : PlainIx b) : DE X fa Wx (.Subscript a b pos) (dOp gIx f f') :=
  PE.imp (pe_ix ix_seq ha hb hs) fun _ _ _ h => T.two ixD (fun _ _ _ q => q) (fun _ _ _ q => q) h

/-! ### slices -/
def cutD (xs : List D) (lo hi : Option Int) : List D := (xs.drop (HT.sIx xs.length 0 lo)).take (HT.sIx xs.length xs.length hi - HT.sIx xs.length 0 lo)
theorem cut_rep {K : PySem.W.Frag} {F : Hp} {vs : List V} {xs : List D} (r : RepL K fa F vs xs) (lo hi : Option Int) : RepL K fa F (cutV vs lo hi) (cutD xs lo hi) := by
  unfold cutV cutD
  rw [r.length]
  exact (r.drop _).take _
theorem cut_whole {xs : List D} {lo hi : Option Int} (h : HT.sIx xs.length 0 lo = 0 ∧ HT.sIx xs.length xs.length hi = xs.length) : cutD xs lo hi = xs := by
  unfold cutD
  rw [h.1, h.2]
  simp
/-- a part of a slice: left out, or an int -/
def dPo : Option (Den W) → Den (Option Int)
  | none => fun _ S => .ok none S
  | some f => fun rho S => (f rho S).bind fun w S1 => match valD S1 w with
    | some (.int i) => .ok (some i) S1
    | _ => .bad
abbrev relO : Rl (Option Int) (Option Int) := fun _ _ a b => a = b
theorem stbO : Stb relO := fun _ _ _ _ _ _ _ _ r => r
abbrev DP (X : Cx) (fa : FA) (Wx : WX) (e : Option Expr) (f : Option (Den W)) : Prop := PO X e (T X.K fa Wx relO (dPo f))
theorem PO.imp {e : Option Expr} {t t' : TO} (h : PO X e t) (k : ∀ sg H Q, t' sg H Q → t sg H Q) : PO X e t' := ⟨fun pins s sg H Q I q => h.run pins s sg H Q I (k sg H Q q)⟩
theorem dp_none : DP X fa Wx none none := PO.imp po_none fun sg H Q ⟨x, m, rho, S, a, q⟩ => (show After _ _ _ _ _ _ _ _ _ (Res.ok (none : Option Int) S) from q).ok a.s rfl
theorem dp_some (h : DE X fa Wx e f) : DP X fa Wx (some e) (some f) := by
  refine PO.imp (po_some h) fun sg H Q hq => ?_
  show T X.K fa Wx (relW X.K fa) f sg H _
  refine T.one (r3 := relO) (g := fun _ w S1 => match valD S1 w with
    | some (.int i) => .ok (some i) S1
    | _ => .bad) (fun _ _ _ q => q) (fun x m H S v a rho at_ ra q => ?_) hq
  split at q
  · rename_i i ea
    exact ⟨i, rep_int at_.s ra ea, q.ok at_.s rfl⟩
  · exact q.elim
def gSl (mu : Bool) (w : W) (l u : Option Int) (S : Stor) : Res W := match valD S w with
  | some (.lst xs) => fin mu (cutD xs l u) S
  | some (.tup xs) => .ok (.d (.tup (cutD xs l u))) S
  | _ => .bad
def dSl (mu : Bool) (f : Den W) (l u : Option (Den W)) : Den W := fun rho S => (f rho S).bind fun w S1 => (dPo l rho S1).bind fun a S2 => (dPo u rho S2).bind fun b S3 => gSl mu w a b S3
theorem de_sl_aux {mu : Bool} {l u : Option (Den W)} {sg : L2.St} {Q : VK} {x m : List Addr} {H1 : Hp} {S : Stor} {v : V} {a : W} {rho : Rho} (at_ : At X.K fa x m sg H1 rho S) (ra : relW X.K fa (fz (m ++ x) H1) m v a)
    (q : After X.K fa x m H1 sg Wx (relW X.K fa) Q ((dPo l rho S).bind fun c S2 => (dPo u rho S2).bind fun b S3 => gSl mu a c b S3)) :
    T X.K fa Wx relO (dPo l) sg H1 fun c H2 => T X.K fa Wx relO (dPo u) sg H2 fun b H3 => rSlA X.K v c b H3 Q ∨ rSlL X.K v c b H3 Q := by
  refine ⟨x, m, rho, S, at_, ?_⟩
  have q1 := After.then (rel := relO) q
  revert q1
  cases dPo l rho S with
  | bad => exact id
  | exc e S1 => exact id
  | ok c S1 =>
    intro q1 c' m1 H2 s1 t1 e1
    obtain ⟨m1', w1', S1', t1, u1, e1, q2⟩ := q1 c' m1 H2 s1 t1 e1
    refine ⟨x, m1', rho, S1', at_.step t1 u1, ?_⟩
    have q3 := After.then (rel := relO) q2
    revert q3
    cases dPo u rho S1' with
    | bad => exact id
    | exc e S1 => exact id
    | ok b S2 =>
      intro q3 b' m2 H3 s2 t2 e2
      obtain ⟨m2', w2', S2', t2, u2, e2, q4⟩ := q3 b' m2 H3 s2 t2 e2
      subst e1 e2
      have ra2 := (ra.step t1).step t2
      unfold gSl at q4
      split at q4
      · rename_i xs ea
        obtain ⟨p, vs, rfl, hp, rp⟩ := rep_lst u2 ra2 ea
        exact .inr ⟨p, vs, rfl, hp, fun r hr => fin_use q4 u2 (cut_rep rp _ _) r hr⟩
      · rename_i xs ea
        obtain ⟨p, vs, rfl, hp, rp⟩ := rep_tup u2 ra2 ea
        refine .inl ⟨p, vs, rfl, hp, fun hw => ?_, fun _ r hr => tup_use q4 u2 (cut_rep rp _ _) r hr⟩
        rw [rp.length] at hw
        rw [cut_whole hw] at q4
        have ra3 : RepW X.K fa (fz (m2' ++ x) H3) m2' (.ref p) (.d (.tup xs)) := by
          cases a with
          | l => exact nomatch (show (none : Option D) = some _ from ea)
          | d y => cases (show some y = some (D.tup xs) from ea); exact ra2
          | r n =>
            unfold valD at ea
            cases z : S2'[n]? with
            | none => simp only [z] at ea; cases ea
            | some c => cases c <;> (simp only [z] at ea; cases ea)
        exact ok_use q4 u2 ra3
      · exact q4.elim
theorem de_sl (mu : Bool) {lo hi : Option Expr} {l u : Option (Den W)} {p2 : Pos} (he : DE X fa Wx e f) (hl : DP X fa Wx lo l) (hu : DP X fa Wx hi u) : DE X fa Wx (.Subscript e (.Slice lo hi none p2) pos) (dSl mu f l u) := by
  refine PE.imp (pe_slice (SlR.or sl_tupA sl_list) he hl hu) fun sg H Q hq => ?_
  show T X.K fa Wx (relW X.K fa) f sg H _
  refine T.one (r3 := relW X.K fa) (g := fun rho w S1 => (dPo l rho S1).bind fun a S2 => (dPo u rho S2).bind fun b S3 => gSl mu w a b S3) (fun _ _ _ q => q) (fun x m H1 S v a rho at_ ra q => ?_) hq
  exact de_sl_aux at_ ra q
end
end DL
namespace DL
open PySem PySem.Spec PyProof.Rows L2

/-! ### truth, tests -/
def truD (S : Stor) (w : W) : Option Bool := match valD S w with
  | some (.bl b) => some b
  | some (.int i) => some (i != 0)
  | some .non => some false
  | some (.str x) => if x.length ≤ 16777216 then some ((x.length : Int) != 0) else none
  | some (.lst xs) => some (!xs.isEmpty)
  | some (.tup xs) => some (!xs.isEmpty)
  | _ => none
theorem empty_rep {K : PySem.W.Frag} {fa : FA} {F : Hp} {vs : List V} {xs : List D} (r : RepL K fa F vs xs) : (!vs.isEmpty) = !xs.isEmpty := by
  cases r <;> rfl
section
variable {K : PySem.W.Frag} {fa : FA} {x m : List Addr} {H : Hp} {S : Stor}
theorem tru_rep (s : SRel K fa x m H S) {v : V} {w : W} {b : Bool} (r : RepW K fa (fz (m ++ x) H) m v w) (e : truD S w = some b) : TruV K v H b := by
  unfold truD at e
  split at e
  · rename_i c ec
    cases rep_bl s r ec
    cases e
    exact (show b = b from rfl)
  · rename_i c ec
    cases rep_int s r ec
    cases e
    exact (show _ = _ from rfl)
  · rename_i ec
    cases rep_val s r ec
    cases e
    exact (show _ = _ from rfl)
  · rename_i c ec
    cases rep_str s r ec
    split at e
    · rename_i hz
      cases e
      exact ⟨by rw [← sl16]; exact hz, rfl⟩
    · cases e
  · rename_i c ec
    obtain ⟨p, vs, rfl, hp, rp⟩ := rep_lst s r ec
    cases e
    exact .inl ⟨vs, hp, (empty_rep rp).symm⟩
  · rename_i c ec
    obtain ⟨p, vs, rfl, hp, rp⟩ := rep_tup s r ec
    cases e
    exact .inr (.inl ⟨vs, hp, (empty_rep rp).symm⟩)
  · cases e
end
def dTruth (f : Den W) : Den Bool := fun rho S => (f rho S).bind fun w S1 => match truD S1 w with
  | some b => .ok b S1
  | none => .bad
section
variable {X : Cx} {fa : FA} {Wx : WX} {pos : Pos} {e a b c : Expr} {es : List Expr} {f f' f'' : Den W} {fs : Den (List W)} {g g' : Den Bool}
theorem dt_truth (ha : DE X fa Wx a f) (he : ∀ whole, isTrue a X.env whole = (do let v ← whole; standAt a.pos; holding [v] (truthy v))) : DT X fa Wx a (dTruth f) := by
  refine PT.imp (pt_truth ha he) fun sg H Q hq => ?_
  show T X.K fa Wx (relW X.K fa) f sg H _
  refine T.one (r3 := relB) (g := fun _ w S1 => match truD S1 w with
    | some b => .ok b S1
    | none => .bad) (fun _ _ _ q => q) (fun x m H S v a rho at_ ra q => ?_) hq
  split at q
  · rename_i k ek
    exact ⟨k, tru_rep at_.s ra ek, q.ok at_.s rfl⟩
  · exact q.elim
/-- a value that is a bool, as a test -/
def dBool (f : Den W) : Den Bool := fun rho S => (f rho S).bind fun w S1 => match valD S1 w with
  | some (.bl b) => .ok b S1
  | _ => .bad
theorem T.bool {ta : TE} (ha : ∀ sg H Q, T X.K fa Wx (relW X.K fa) f sg H Q → ta sg H Q) {sg : L2.St} {H : Hp} {Q : Bool → Hp → Prop} (h : T X.K fa Wx relB (dBool f) sg H Q) : tTest ta sg H Q := by
  show ta sg H _
  refine T.one (r3 := relB) (g := fun _ w S1 => match valD S1 w with
    | some (.bl b) => .ok b S1
    | _ => .bad) ha (fun x m H S v a rho at_ ra q => ?_) h
  split at q
  · rename_i k ek
    exact ⟨k, rep_bl at_.s ra ek, q.ok at_.s rfl⟩
  · exact q.elim
theorem dt_cmp {op : CmpOp} {r : R2} {k : W → W → Stor → Res W} (ho : OpR X (compareOp op) r) (hk : OpD X fa r k) (ha : DE X fa Wx a f) (hb : DE X fa Wx b f') (hm : behindInMarks op b = false) : DT X fa Wx (.Compare a [op] [b] pos) (dBool (dOp k f f')) :=
  PT.imp (pt_cmpR ho ha hb hm) fun _ _ _ h => T.bool (fun _ _ _ q => T.two hk (fun _ _ _ q => q) (fun _ _ _ q => q) q) h
/-- a op b op c -/
def dChain (k k' : W → W → Stor → Res W) (f f' f'' : Den W) : Den W := fun rho S => (f rho S).bind fun u S1 => (f' rho S1).bind fun v S2 => (k u v S2).bind fun t S3 => match valD S3 t with
  | some (.bl true) => (f'' rho S3).bind fun w S4 => k' v w S4
  | some (.bl false) => .ok (.d (.bl false)) S3
  | _ => .bad
theorem After.op {r : R2} {k : W → W → Stor → Res W} (hk : OpD X fa r k) {x m : List Addr} {H : Hp} {S : Stor} {sg : L2.St} {v u : V} {a b : W} {kk : W → Stor → Res W} {Q : VK} (s : SRel X.K fa x m H S) (ra : RepW X.K fa (fz (m ++ x) H) m v a) (rb : RepW X.K fa (fz (m ++ x) H) m u b)
    (q : After X.K fa x m H sg Wx (relW X.K fa) Q ((k a b S).bind kk)) : r v u H fun y H1 => ∃ m1 w S1, Step m H m1 H1 ∧ SRel X.K fa x m1 H1 S1 ∧ RepW X.K fa (fz (m1 ++ x) H1) m1 y w ∧ After X.K fa x m1 H1 sg Wx (relW X.K fa) Q (kk w S1) :=
  hk x m H S sg Wx v u a b _ s ra rb (After.then (rel := relW X.K fa) q)
theorem T.chain {r r' : R2} {k k' : W → W → Stor → Res W} (hk : OpD X fa r k) (hk' : OpD X fa r' k') (ha : DE X fa Wx a f) (hb : DE X fa Wx b f') (hc : DE X fa Wx c f'') {sg : L2.St} {H : Hp} {Q : VK}
    (h : T X.K fa Wx (relW X.K fa) (dChain k k' f f' f'') sg H Q) : tChain r r' (T X.K fa Wx (relW X.K fa) f) (T X.K fa Wx (relW X.K fa) f') (T X.K fa Wx (relW X.K fa) f'') sg H Q := by
  refine T.duo (r3 := relW X.K fa) (g := fun rho u v S2 => (k u v S2).bind fun t S3 => match valD S3 t with
    | some (.bl true) => (f'' rho S3).bind fun w S4 => k' v w S4
    | some (.bl false) => .ok (.d (.bl false)) S3
    | _ => .bad) stbW (fun _ _ _ q => q) (fun _ _ _ q => q) (fun x m H S v u a b rho at_ ra rb q => ?_) h
  have q1 := After.op hk at_.s ra rb q
  have mono : ∀ Q' : VK, (∀ y H1, (∃ m1 w S1, Step m H m1 H1 ∧ SRel X.K fa x m1 H1 S1 ∧ RepW X.K fa (fz (m1 ++ x) H1) m1 y w ∧ After X.K fa x m1 H1 sg Wx (relW X.K fa) Q (match valD S1 w with
    | some (.bl true) => (f'' rho S1).bind fun w S4 => k' b w S4
    | some (.bl false) => .ok (.d (.bl false)) S1
    | _ => .bad)) → Q' y H1) → r v u H Q' := fun Q' hQ => by
    refine hk x m H S sg Wx v u a b Q' at_.s ra rb ?_
    have q2 := After.then (rel := relW X.K fa) q
    revert q2
    cases k a b S with
    | bad => exact id
    | exc e S1 => exact id
    | ok w S1 => exact fun q2 y m1 H1 s1 t1 r1 => hQ y H1 (q2 y m1 H1 s1 t1 r1)
  refine mono _ fun y H1 ⟨m1, w, S1, s1, t1, ry, q2⟩ => ?_
  have at1 := at_.step s1 t1
  split at q2
  · rename_i ew
    refine ⟨true, rep_bl t1 ry ew, ?_⟩
    rw [if_pos rfl]
    refine ⟨x, m1, rho, S1, at1, ?_⟩
    have q3 := After.then (rel := relW X.K fa) q2
    revert q3
    cases f'' rho S1 with
    | bad => exact id
    | exc e S1 => exact id
    | ok w2 S2 =>
      intro q3 z m2 H2 s2 t2 r2
      obtain ⟨m2', w2', S2', s2', t2', r2', q4⟩ := q3 z m2 H2 s2 t2 r2
      exact hk' x m2' H2 S2' sg Wx u z b w2' Q t2' ((rb.step s1).step s2') r2' q4
  · rename_i ew
    refine ⟨false, rep_bl t1 ry ew, ?_⟩
    rw [if_neg Bool.false_ne_true]
    exact ok_use q2 t1 (.bl false)
  · exact q2.elim
theorem de_chain {op op' : CmpOp} {r r' : R2} {k k' : W → W → Stor → Res W} (ho : OpR X (compareOp op) r) (ho' : OpR X (compareOp op') r') (hk : OpD X fa r k) (hk' : OpD X fa r' k') (ha : DE X fa Wx a f) (hb : DE X fa Wx b f') (hc : DE X fa Wx c f'')
    (hm : lastMarks [op, op'] [b, c] = false := by with_unfolding_all rfl) : DE X fa Wx (.Compare a [op, op'] [b, c] pos) (dChain k k' f f' f'') :=
  PE.imp (pe_chain ho ho' ha hb hc hm) fun _ _ _ h => T.chain hk hk' ha hb hc h
theorem dt_chain {op op' : CmpOp} {r r' : R2} {k k' : W → W → Stor → Res W} (ho : OpR X (compareOp op) r) (ho' : OpR X (compareOp op') r') (hk : OpD X fa r k) (hk' : OpD X fa r' k') (ha : DE X fa Wx a f) (hb : DE X fa Wx b f') (hc : DE X fa Wx c f'')
    (hm : lastMarks [op, op'] [b, c] = false := by with_unfolding_all rfl) : DT X fa Wx (.Compare a [op, op'] [b, c] pos) (dBool (dChain k k' f f' f'')) :=
  PT.imp (pt_chain ho ho' ha hb hc hm) fun _ _ _ h => T.bool (fun _ _ _ q => T.chain hk hk' ha hb hc q) h

/-! ### and, or, not -/
abbrev DW (X : Cx) (fa : FA) (Wx : WX) (e : Expr) (f : Den Bool) : Prop := PW X e (T X.K fa Wx relB f)
theorem PW.imp {e : Expr} {t t' : TT} (h : PW X e t) (k : ∀ sg H Q, t' sg H Q → t sg H Q) : PW X e t' := ⟨fun wh pins s sg H Q I q => h.run wh pins s sg H Q I (k sg H Q q)⟩
def dAndT (f g : Den Bool) : Den Bool := fun rho S => (f rho S).bind fun b S1 => if b = true then g rho S1 else .ok false S1
def dOrT (f g : Den Bool) : Den Bool := fun rho S => (f rho S).bind fun b S1 => if b = true then .ok true S1 else g rho S1
def dNotT (f : Den Bool) : Den Bool := fun rho S => (f rho S).bind fun b S1 => .ok (!b) S1
theorem dw_and1 (h : DT X fa Wx a g) : DW X fa Wx (.BoolOp .And [a] pos) g := pw_and1 h
theorem dw_or1 (h : DT X fa Wx a g) : DW X fa Wx (.BoolOp .Or [a] pos) g := pw_or1 h
theorem dw_and (ha : DT X fa Wx a g) (hb : DW X fa Wx (.BoolOp .And (b :: es) pos) g') : DW X fa Wx (.BoolOp .And (a :: b :: es) pos) (dAndT g g') := by
  refine PW.imp (pw_and ha hb) fun sg H Q hq => ?_
  show T X.K fa Wx relB g sg H _
  refine T.one (r3 := relB) (g := fun rho b S1 => if b = true then g' rho S1 else .ok false S1) (fun _ _ _ q => q) (fun x m H S v a rho at_ ra q => ?_) hq
  have e : v = a := ra
  subst e
  cases v with
  | true =>
    rw [if_pos rfl] at q ⊢
    exact ⟨x, m, rho, S, at_, q⟩
  | false =>
    rw [if_neg Bool.false_ne_true] at q ⊢
    exact q.ok at_.s rfl
theorem dw_or (ha : DT X fa Wx a g) (hb : DW X fa Wx (.BoolOp .Or (b :: es) pos) g') : DW X fa Wx (.BoolOp .Or (a :: b :: es) pos) (dOrT g g') := by
  refine PW.imp (pw_or ha hb) fun sg H Q hq => ?_
  show T X.K fa Wx relB g sg H _
  refine T.one (r3 := relB) (g := fun rho b S1 => if b = true then .ok true S1 else g' rho S1) (fun _ _ _ q => q) (fun x m H S v a rho at_ ra q => ?_) hq
  have e : v = a := ra
  subst e
  cases v with
  | true =>
    rw [if_pos rfl] at q ⊢
    exact q.ok at_.s rfl
  | false =>
    rw [if_neg Bool.false_ne_true] at q ⊢
    exact ⟨x, m, rho, S, at_, q⟩
theorem dt_of (h : DW X fa Wx a g) : DT X fa Wx a g := h.pt
theorem dt_not (ha : DT X fa Wx a g) : DT X fa Wx (.UnaryOp .Not a pos) (dNotT g) := by
  refine PT.imp (pt_not ha) fun sg H Q hq => ?_
  show T X.K fa Wx relB g sg H _
  refine T.one (r3 := relB) (g := fun _ b S1 => .ok (!b) S1) (fun _ _ _ q => q) (fun x m H S v a rho at_ ra q => ?_) hq
  have e : v = a := ra
  subst e
  exact q.ok at_.s rfl
def dAndV (f f' : Den W) : Den W := fun rho S => (f rho S).bind fun w S1 => match valD S1 w with
  | some (.bl true) => f' rho S1
  | some (.bl false) => .ok (.d (.bl false)) S1
  | _ => .bad
def dOrV (f f' : Den W) : Den W := fun rho S => (f rho S).bind fun w S1 => match valD S1 w with
  | some (.bl true) => .ok (.d (.bl true)) S1
  | some (.bl false) => f' rho S1
  | _ => .bad
theorem de_b1 {op} (h : DE X fa Wx a f) : DE X fa Wx (.BoolOp op [a] pos) f := pe_one h
theorem de_and (ha : DE X fa Wx a f) (hb : DE X fa Wx (.BoolOp .And (b :: es) pos) f') : DE X fa Wx (.BoolOp .And (a :: b :: es) pos) (dAndV f f') := by
  refine PE.imp (pe_and ha hb) fun sg H Q hq => ?_
  show T X.K fa Wx (relW X.K fa) f sg H _
  refine T.one (r3 := relW X.K fa) (g := fun rho w S1 => match valD S1 w with
    | some (.bl true) => f' rho S1
    | some (.bl false) => .ok (.d (.bl false)) S1
    | _ => .bad) (fun _ _ _ q => q) (fun x m H S v a rho at_ ra q => ?_) hq
  split at q
  · rename_i ew
    refine ⟨true, rep_bl at_.s ra ew, ?_⟩
    rw [if_pos rfl]
    exact ⟨x, m, rho, S, at_, q⟩
  · rename_i ew
    refine ⟨false, rep_bl at_.s ra ew, ?_⟩
    rw [if_neg Bool.false_ne_true]
    exact ok_use q at_.s (.bl _)
  · exact q.elim
theorem de_or (ha : DE X fa Wx a f) (hb : DE X fa Wx (.BoolOp .Or (b :: es) pos) f') : DE X fa Wx (.BoolOp .Or (a :: b :: es) pos) (dOrV f f') := by
  refine PE.imp (pe_or ha hb) fun sg H Q hq => ?_
  show T X.K fa Wx (relW X.K fa) f sg H _
  refine T.one (r3 := relW X.K fa) (g := fun rho w S1 => match valD S1 w with
    | some (.bl true) => .ok (.d (.bl true)) S1
    | some (.bl false) => f' rho S1
    | _ => .bad) (fun _ _ _ q => q) (fun x m H S v a rho at_ ra q => ?_) hq
  split at q
  · rename_i ew
    refine ⟨true, rep_bl at_.s ra ew, ?_⟩
    rw [if_pos rfl]
    exact ok_use q at_.s (.bl _)
  · rename_i ew
    refine ⟨false, rep_bl at_.s ra ew, ?_⟩
    rw [if_neg Bool.false_ne_true]
    exact ⟨x, m, rho, S, at_, q⟩
  · exact q.elim
def dNotV (f : Den W) : Den W := fun rho S => (f rho S).bind fun w S1 => match truD S1 w with
  | some b => .ok (.d (.bl (!b))) S1
  | none => .bad
theorem de_not (ha : DE X fa Wx a f) : DE X fa Wx (.UnaryOp .Not a pos) (dNotV f) := by
  refine PE.imp (pe_notT ha) fun sg H Q hq => ?_
  show T X.K fa Wx (relW X.K fa) f sg H _
  refine T.one (r3 := relW X.K fa) (g := fun _ w S1 => match truD S1 w with
    | some b => .ok (.d (.bl (!b))) S1
    | none => .bad) (fun _ _ _ q => q) (fun x m H S v a rho at_ ra q => ?_) hq
  split at q
  · rename_i k ek
    exact ⟨k, tru_rep at_.s ra ek, ok_use q at_.s (.bl _)⟩
  · exact q.elim
def dIf (g : Den Bool) (f f' : Den W) : Den W := fun rho S => (g rho S).bind fun b S1 => if b = true then f rho S1 else f' rho S1
theorem de_if (hc : DT X fa Wx c g) (ha : DE X fa Wx a f) (hb : DE X fa Wx b f') : DE X fa Wx (.IfExp c a b pos) (dIf g f f') := by
  refine PE.imp (pe_ifExp hc ha hb) fun sg H Q hq => ?_
  show T X.K fa Wx relB g sg H _
  refine T.one (r3 := relW X.K fa) (g := fun rho b S1 => if b = true then f rho S1 else f' rho S1) (fun _ _ _ q => q) (fun x m H S v a rho at_ ra q => ?_) hq
  have e : v = a := ra
  subst e
  cases v with
  | true =>
    rw [if_pos rfl] at q ⊢
    exact ⟨x, m, rho, S, at_, q⟩
  | false =>
    rw [if_neg Bool.false_ne_true] at q ⊢
    exact ⟨x, m, rho, S, at_, q⟩

/-! ### built-ins by their names -/
def CallD (X : Cx) (fa : FA) (r : List V → Hp → VK → Prop) (g : List W → Stor → Res W) : Prop :=
  ∀ (x m : List Addr) (H : Hp) (S : Stor) (sg : L2.St) (Wx : WX) (vs : List V) (ws : List W) (Q : VK), SRel X.K fa x m H S → RepWs X.K fa (fz (m ++ x) H) m vs ws → After X.K fa x m H sg Wx (relW X.K fa) Q (g ws S) → r vs H Q
def dCall (g : List W → Stor → Res W) (fs : Den (List W)) : Den W := fun rho S => (fs rho S).bind g
theorem de_callB {x : Str} {id : String} {r : List V → Hp → VK → Prop} {k : List W → Stor → Res W} {p : Pos} (hc : CallR X (.builtin id) r) (hk : CallD X fa r k) (hg : Gl X x) (hm : X.mg x = none) (hv : bootBuiltins x = some (.builtin id)) (ha : DA X fa Wx (e :: es) fs) (hn : x ≠ "__name__" := by decide) (hdb : (x == ("__debug__" : Str)) = false := by decide)
    (he : starEach (e :: es) X.env = (false, eval e X.env) :: starEach es X.env := by rfl) (hpl : (backTo pos (starEach es X.env)).any (·.1) = false := by rfl) : DE X fa Wx (.Call (.Name x p) (e :: es) [] pos) (dCall k fs) := by
  refine PE.imp (pe_callB hc hg hm hv ha hn hdb he hpl) fun sg H Q hq => ?_
  show T X.K fa Wx (fun F m vs ws => RepWs X.K fa F m vs ws) fs sg H _
  exact T.one (r3 := relW X.K fa) (g := fun _ => k) (fun _ _ _ q => q) (fun x m H S v a rho at_ ra q => hk x m H S sg Wx v a Q at_.s ra q) hq
theorem de_callT {x : Str} {id : String} {r : List V → Hp → VK → Prop} {k : List W → Stor → Res W} {p : Pos} (hc : CallR X (.type id) r) (hk : CallD X fa r k) (hg : Gl X x) (hm : X.mg x = none) (hv : bootBuiltins x = some (.type id)) (ha : DA X fa Wx (e :: es) fs) (hn : x ≠ "__name__" := by decide) (hdb : (x == ("__debug__" : Str)) = false := by decide)
    (he : starEach (e :: es) X.env = (false, eval e X.env) :: starEach es X.env := by rfl) (hpl : (backTo pos (starEach es X.env)).any (·.1) = false := by rfl) : DE X fa Wx (.Call (.Name x p) (e :: es) [] pos) (dCall k fs) := by
  refine PE.imp (pe_callTy hc hg hm hv ha hn hdb he hpl) fun sg H Q hq => ?_
  show T X.K fa Wx (fun F m vs ws => RepWs X.K fa F m vs ws) fs sg H _
  exact T.one (r3 := relW X.K fa) (g := fun _ => k) (fun _ _ _ q => q) (fun x m H S v a rho at_ ra q => hk x m H S sg Wx v a Q at_.s ra q) hq
/-- a built-in class as a value -/
theorem de_ty {x : Str} {t : Ty} {p : Pos} (hg : Gl X x) (hm : X.mg x = none) (hv : bootBuiltins x = some (.type t.name)) (hn : x ≠ "__name__" := by decide) (hd : (x == ("__debug__" : Str)) = false := by decide) : DE X fa Wx (.Name x p) (dC (.ty t)) :=
  de_c (pe_bltn hg hm hv (show RelV (.ty t.name) (.type t.name) from rfl) hn hd) fun _ => .ty t
end

/-! ### what the built-ins do -/
def intsD : List D → Option (List Int)
  | [] => some []
  | .int i :: r => (intsD r).map (i :: ·)
  | _ :: _ => none
def bolsD : List D → Option (List Bool)
  | [] => some []
  | .bl i :: r => (bolsD r).map (i :: ·)
  | _ :: _ => none
def strsD : List D → Option (List Str)
  | [] => some []
  | .str i :: r => (strsD r).map (i :: ·)
  | _ :: _ => none
section
variable {K : PySem.W.Frag} {fa : FA} {F : Hp}
theorem intsD_rep : ∀ {xs : List D} {vs : List V} {is : List Int}, intsD xs = some is → RepL K fa F vs xs → vs = is.map V.int
  | [], _, _, e, .nil => by cases e; rfl
  | .int i :: xs, _, is, e, .cons h r => by
    cases h
    unfold intsD at e
    cases q : intsD xs with
    | none => rw [q] at e; cases e
    | some js => rw [q] at e; cases e; rw [intsD_rep q r]; rfl
  | .non :: _, _, _, e, _ => by unfold intsD at e; cases e
  | .bl _ :: _, _, _, e, _ => by unfold intsD at e; cases e
  | .str _ :: _, _, _, e, _ => by unfold intsD at e; cases e
  | .tup _ :: _, _, _, e, _ => by unfold intsD at e; cases e
  | .lst _ :: _, _, _, e, _ => by unfold intsD at e; cases e
  | .fn _ :: _, _, _, e, _ => by unfold intsD at e; cases e
  | .ty _ :: _, _, _, e, _ => by unfold intsD at e; cases e
theorem bolsD_rep : ∀ {xs : List D} {vs : List V} {is : List Bool}, bolsD xs = some is → RepL K fa F vs xs → vs = is.map V.bl
  | [], _, _, e, .nil => by cases e; rfl
  | .bl i :: xs, _, is, e, .cons h r => by
    cases h
    unfold bolsD at e
    cases q : bolsD xs with
    | none => rw [q] at e; cases e
    | some js => rw [q] at e; cases e; rw [bolsD_rep q r]; rfl
  | .non :: _, _, _, e, _ => by unfold bolsD at e; cases e
  | .int _ :: _, _, _, e, _ => by unfold bolsD at e; cases e
  | .str _ :: _, _, _, e, _ => by unfold bolsD at e; cases e
  | .tup _ :: _, _, _, e, _ => by unfold bolsD at e; cases e
  | .lst _ :: _, _, _, e, _ => by unfold bolsD at e; cases e
  | .fn _ :: _, _, _, e, _ => by unfold bolsD at e; cases e
  | .ty _ :: _, _, _, e, _ => by unfold bolsD at e; cases e
theorem strsD_rep : ∀ {xs : List D} {vs : List V} {is : List Str}, strsD xs = some is → RepL K fa F vs xs → vs = is.map V.str
  | [], _, _, e, .nil => by cases e; rfl
  | .str i :: xs, _, is, e, .cons h r => by
    cases h
    unfold strsD at e
    cases q : strsD xs with
    | none => rw [q] at e; cases e
    | some js => rw [q] at e; cases e; rw [strsD_rep q r]; rfl
  | .non :: _, _, _, e, _ => by unfold strsD at e; cases e
  | .int _ :: _, _, _, e, _ => by unfold strsD at e; cases e
  | .bl _ :: _, _, _, e, _ => by unfold strsD at e; cases e
  | .tup _ :: _, _, _, e, _ => by unfold strsD at e; cases e
  | .lst _ :: _, _, _, e, _ => by unfold strsD at e; cases e
  | .fn _ :: _, _, _, e, _ => by unfold strsD at e; cases e
  | .ty _ :: _, _, _, e, _ => by unfold strsD at e; cases e
end
def minI : List Int → Int
  | [] => 0
  | [x] => x
  | x :: y :: r => min x (minI (y :: r))
def maxI : List Int → Int
  | [] => 0
  | [x] => x
  | x :: y :: r => max x (maxI (y :: r))
theorem minI_spec : ∀ {l : List Int}, l ≠ [] → minI l ∈ l ∧ ∀ y ∈ l, minI l ≤ y
  | [x], _ => ⟨List.mem_singleton.mpr rfl, fun y h => by rw [List.mem_singleton.mp h]; exact Int.le_refl _⟩
  | x :: y :: r, _ => by
    obtain ⟨h1, h2⟩ := minI_spec (l := y :: r) (by simp)
    rw [minI]
    refine ⟨?_, fun z hz => ?_⟩
    · by_cases h : x ≤ minI (y :: r)
      · rw [Int.min_eq_left h]; exact List.mem_cons_self
      · rw [Int.min_eq_right (by omega)]; exact List.mem_cons_of_mem _ h1
    · rcases List.mem_cons.mp hz with rfl | hz
      · exact Int.min_le_left _ _
      · exact Int.le_trans (Int.min_le_right _ _) (h2 z hz)
theorem maxI_spec : ∀ {l : List Int}, l ≠ [] → maxI l ∈ l ∧ ∀ y ∈ l, y ≤ maxI l
  | [x], _ => ⟨List.mem_singleton.mpr rfl, fun y h => by rw [List.mem_singleton.mp h]; exact Int.le_refl _⟩
  | x :: y :: r, _ => by
    obtain ⟨h1, h2⟩ := maxI_spec (l := y :: r) (by simp)
    rw [maxI]
    refine ⟨?_, fun z hz => ?_⟩
    · by_cases h : maxI (y :: r) ≤ x
      · rw [Int.max_eq_left h]; exact List.mem_cons_self
      · rw [Int.max_eq_right (by omega)]; exact List.mem_cons_of_mem _ h1
    · rcases List.mem_cons.mp hz with rfl | hz
      · exact Int.le_max_left _ _
      · exact Int.le_trans (h2 z hz) (Int.le_max_right _ _)
section
variable {X : Cx} {fa : FA}
theorem ws1 {K : PySem.W.Frag} {F : Hp} {m : List Addr} {vs : List V} {w : W} (r : RepWs K fa F m vs [w]) : ∃ v, vs = [v] ∧ RepW K fa F m v w := by
  cases r with
  | cons h t => cases t; exact ⟨_, rfl, h⟩
theorem ws2 {K : PySem.W.Frag} {F : Hp} {m : List Addr} {vs : List V} {w u : W} (r : RepWs K fa F m vs [w, u]) : ∃ v z, vs = [v, z] ∧ RepW K fa F m v w ∧ RepW K fa F m z u := by
  cases r with
  | cons h t =>
    cases t with
    | cons h' t => cases t; exact ⟨_, _, rfl, h, h'⟩
/-- a function of one list of ints (not empty) -/
def gInts (ne : Bool) (f : List Int → Int) (ws : List W) (S : Stor) : Res W := match ws with
  | [w] => match valD S w with
    | some (.lst xs) => match intsD xs with
      | some is => if (!ne || !is.isEmpty) = true then .ok (.d (.int (f is))) S else .bad
      | none => .bad
    | _ => .bad
  | _ => .bad
theorem gInts_use {x m : List Addr} {H : Hp} {S : Stor} {sg : L2.St} {Wx : WX} {ne : Bool} {f : List Int → Int} {vs : List V} {ws : List W} {Q : VK} (s : SRel X.K fa x m H S) (r : RepWs X.K fa (fz (m ++ x) H) m vs ws)
    (h : After X.K fa x m H sg Wx (relW X.K fa) Q (gInts ne f ws S)) : ∃ a is, vs = [V.ref a] ∧ SqL X.K H a (is.map V.int) ∧ (ne = true → is ≠ []) ∧ Q (.int (f is)) H := by
  unfold gInts at h
  split at h
  · rename_i w
    obtain ⟨v, rfl, rv⟩ := ws1 r
    split at h
    · rename_i xs ew
      split at h
      · rename_i is ei
        split at h
        · rename_i hn
          obtain ⟨p, us, rfl, hp, rp⟩ := rep_lst s rv ew
          refine ⟨p, is, rfl, by rw [← intsD_rep ei rp]; exact hp, fun hne z => ?_, ok_use h s (.int _)⟩
          subst hne z
          exact absurd hn (by decide)
        · exact h.elim
      · exact h.elim
    · exact h.elim
  · exact h.elim
theorem minLD : CallD X fa (rMin X.K) (gInts true minI) := by
  intro x m H S sg Wx vs ws Q s r h
  obtain ⟨a, is, e, h1, h2, q⟩ := gInts_use s r h
  have hne := h2 rfl
  obtain ⟨k1, k2⟩ := minI_spec hne
  exact ⟨a, is, e, h1, List.length_pos_iff.mpr hne, fun z z1 z2 => by rw [Int.le_antisymm (z2 _ k1) (k2 z z1)]; exact q⟩
theorem maxLD : CallD X fa (rMax X.K) (gInts true maxI) := by
  intro x m H S sg Wx vs ws Q s r h
  obtain ⟨a, is, e, h1, h2, q⟩ := gInts_use s r h
  have hne := h2 rfl
  obtain ⟨k1, k2⟩ := maxI_spec hne
  exact ⟨a, is, e, h1, List.length_pos_iff.mpr hne, fun z z1 z2 => by rw [Int.le_antisymm (k2 z z1) (z2 _ k1)]; exact q⟩
theorem sumD : CallD X fa (rSum X.K) (gInts false List.sum) := by
  intro x m H S sg Wx vs ws Q s r h
  obtain ⟨a, is, e, h1, h2, q⟩ := gInts_use s r h
  exact ⟨a, is, e, h1, q⟩
/-- min, max of two ints or of one list -/
def gInt2 (f : Int → Int → Int) (k : List W → Stor → Res W) (ws : List W) (S : Stor) : Res W := match ws with
  | [a, b] => match valD S a, valD S b with
    | some (.int i), some (.int j) => .ok (.d (.int (f i j))) S
    | _, _ => .bad
  | _ => k ws S
theorem int2D {r : List V → Hp → VK → Prop} {f : Int → Int → Int} {k : List W → Stor → Res W} (hk : CallD X fa r k) : CallD X fa (fun xs H Q => (∃ i j, xs = [.int i, .int j] ∧ Q (.int (f i j)) H) ∨ r xs H Q) (gInt2 f k) := by
  intro x m H S sg Wx vs ws Q s rr h
  unfold gInt2 at h
  split at h
  · rename_i a b
    obtain ⟨v, z, rfl, r1, r2⟩ := ws2 rr
    split at h
    · rename_i i j ea eb
      exact .inl ⟨i, j, by rw [rep_int s r1 ea, rep_int s r2 eb], ok_use h s (.int _)⟩
    · exact h.elim
  · exact .inr (hk x m H S sg Wx vs ws Q s rr h)
/-- all, any -/
def gBols (f : List Bool → Bool) (ws : List W) (S : Stor) : Res W := match ws with
  | [w] => match valD S w with
    | some (.lst xs) => match bolsD xs with
      | some is => .ok (.d (.bl (f is))) S
      | none => .bad
    | _ => .bad
  | _ => .bad
theorem bolsCD (f : List Bool → Bool) : CallD X fa (fun vs H Q => ∃ (a : Addr) (bs : List Bool), vs = [V.ref a] ∧ SqL X.K H a (bs.map V.bl) ∧ Q (.bl (f bs)) H) (gBols f) := by
  intro x m H S sg Wx vs ws Q s r h
  unfold gBols at h
  split at h
  · rename_i w
    obtain ⟨v, rfl, rv⟩ := ws1 r
    split at h
    · rename_i xs ew
      split at h
      · rename_i is ei
        obtain ⟨p, us, rfl, hp, rp⟩ := rep_lst s rv ew
        exact ⟨p, is, rfl, by rw [← bolsD_rep ei rp]; exact hp, ok_use h s (.bl _)⟩
      · exact h.elim
    · exact h.elim
  · exact h.elim
/-- len -/
def gLen (ws : List W) (S : Stor) : Res W := match ws with
  | [w] => match valD S w with
    | some (.lst xs) => .ok (.d (.int xs.length)) S
    | some (.tup xs) => .ok (.d (.int xs.length)) S
    | some (.str z) => if z.length ≤ 16777216 then .ok (.d (.int z.length)) S else .bad
    | _ => .bad
  | _ => .bad
theorem lenD : CallD X fa (fun xs H Q => ∃ x n, xs = [x] ∧ LenV X.K x H n ∧ Q (.int n) H) gLen := by
  intro x m H S sg Wx vs ws Q s r h
  unfold gLen at h
  split at h
  · rename_i w
    obtain ⟨v, rfl, rv⟩ := ws1 r
    split at h
    · rename_i xs ew
      obtain ⟨p, us, rfl, hp, rp⟩ := rep_lst s rv ew
      exact ⟨_, xs.length, rfl, .inl ⟨us, hp, rp.length.symm⟩, ok_use h s (.int _)⟩
    · rename_i xs ew
      obtain ⟨p, us, rfl, hp, rp⟩ := rep_tup s rv ew
      exact ⟨_, xs.length, rfl, .inr ⟨us, hp, rp.length.symm⟩, ok_use h s (.int _)⟩
    · rename_i z ew
      split at h
      · rename_i hz
        exact ⟨.str z, z.length, by rw [rep_str s rv ew], ⟨by rw [← sl16]; exact hz, rfl⟩, ok_use h s (.int _)⟩
      · exact h.elim
    · exact h.elim
  · exact h.elim
/-- int(i), int(b) -/
def gInt (ws : List W) (S : Stor) : Res W := match ws with
  | [w] => match valD S w with
    | some (.int i) => .ok (.d (.int i)) S
    | some (.bl b) => .ok (.d (.int (if b then 1 else 0))) S
    | _ => .bad
  | _ => .bad
theorem intD : CallD X fa (fun xs H Q => (∃ i, xs = [.int i] ∧ Q (.int i) H) ∨ ∃ k, xs = [.bl k] ∧ Q (.int (if k then 1 else 0)) H) gInt := by
  intro x m H S sg Wx vs ws Q s r h
  unfold gInt at h
  split at h
  · rename_i w
    obtain ⟨v, rfl, rv⟩ := ws1 r
    split at h
    · rename_i i ew
      exact .inl ⟨i, by rw [rep_int s rv ew], ok_use h s (.int _)⟩
    · rename_i b ew
      exact .inr ⟨b, by rw [rep_bl s rv ew], ok_use h s (.int _)⟩
    · exact h.elim
  · exact h.elim
def gAbs (ws : List W) (S : Stor) : Res W := match ws with
  | [w] => match valD S w with
    | some (.int i) => .ok (.d (.int (if i < 0 then -i else i))) S
    | _ => .bad
  | _ => .bad
theorem absD : CallD X fa (fun xs H Q => ∃ i, xs = [.int i] ∧ Q (.int (if i < 0 then -i else i)) H) gAbs := by
  intro x m H S sg Wx vs ws Q s r h
  unfold gAbs at h
  split at h
  · rename_i w
    obtain ⟨v, rfl, rv⟩ := ws1 r
    split at h
    · rename_i i ew
      exact ⟨i, by rw [rep_int s rv ew], ok_use h s (.int _)⟩
    · exact h.elim
  · exact h.elim
/-- list(xs), tuple(xs) -/
def gList (mu : Bool) (ws : List W) (S : Stor) : Res W := match ws with
  | [w] => match valD S w with
    | some (.lst xs) => fin mu xs S
    | some (.tup xs) => fin mu xs S
    | _ => .bad
  | _ => .bad
theorem listD (mu : Bool) : CallD X fa (fun xs H Q => ∃ p ys, xs = [.ref p] ∧ (SqL X.K H p ys ∨ SqT X.K H p ys) ∧ ∀ l, H l = none → Q (.ref l) (upd H l (.lst ys))) (gList mu) := by
  intro x m H S sg Wx vs ws Q s r h
  unfold gList at h
  split at h
  · rename_i w
    obtain ⟨v, rfl, rv⟩ := ws1 r
    split at h
    · rename_i xs ew
      obtain ⟨p, us, rfl, hp, rp⟩ := rep_lst s rv ew
      exact ⟨p, us, rfl, .inl hp, fun l hl => fin_use h s rp l hl⟩
    · rename_i xs ew
      obtain ⟨p, us, rfl, hp, rp⟩ := rep_tup s rv ew
      exact ⟨p, us, rfl, .inr hp, fun l hl => fin_use h s rp l hl⟩
    · exact h.elim
  · exact h.elim
def gTuple (ws : List W) (S : Stor) : Res W := match ws with
  | [w] => match valD S w with
    | some (.lst xs) => .ok (.d (.tup xs)) S
    | some (.tup xs) => .ok (.d (.tup xs)) S
    | _ => .bad
  | _ => .bad
theorem tupleD : CallD X fa (fun xs H Q => ∃ p ys, xs = [.ref p] ∧ ((SqL X.K H p ys ∧ ∀ l, H l = none → Q (.ref l) (upd H l (.tup ys))) ∨ (SqT X.K H p ys ∧ Q (.ref p) H))) gTuple := by
  intro x m H S sg Wx vs ws Q s r h
  unfold gTuple at h
  split at h
  · rename_i w
    obtain ⟨v, rfl, rv⟩ := ws1 r
    split at h
    · rename_i xs ew
      obtain ⟨p, us, rfl, hp, rp⟩ := rep_lst s rv ew
      exact ⟨p, us, rfl, .inl ⟨hp, fun l hl => tup_use h s rp l hl⟩⟩
    · rename_i xs ew
      obtain ⟨p, us, rfl, hp, rp⟩ := rep_tup s rv ew
      have rv' : RepW X.K fa (fz (m ++ x) H) m (.ref p) (.d (.tup xs)) := by
        cases w with
        | l => exact nomatch (show (none : Option D) = some _ from ew)
        | d y => cases (show some y = some (D.tup xs) from ew); exact rv
        | r n =>
          unfold valD at ew
          cases z : S[n]? with
          | none => simp only [z] at ew; cases ew
          | some c => cases c <;> (simp only [z] at ew; cases ew)
      exact ⟨p, us, rfl, .inr ⟨hp, ok_use h s rv'⟩⟩
    · exact h.elim
  · exact h.elim

/-! ### isinstance -/
inductive Kd where
  | non | bool | int | str | list | tuple
def Kd.name : Kd → String
  | .non => "NoneType"
  | .bool => "bool"
  | .int => "int"
  | .str => "str"
  | .list => "list"
  | .tuple => "tuple"
def isK : Kd → Ty → Bool
  | .bool, .bool => true
  | .bool, .int => true
  | .int, .int => true
  | .str, .str => true
  | .list, .list => true
  | .tuple, .tuple => true
  | _, _ => false
theorem isK_ok (k : Kd) (t : Ty) : kitB k.name t.name = some (isK k t) := by
  cases k <;> cases t <;> decide +kernel
def kdD : D → Option Kd
  | .non => some .non
  | .bl _ => some .bool
  | .int _ => some .int
  | .str _ => some .str
  | .lst _ => some .list
  | .tup _ => some .tuple
  | _ => none
theorem kd_rep {K : PySem.W.Frag} {H : Hp} {v : V} {d : D} {k : Kd} (r : Rep K fa H v d) (e : kdD d = some k) : TyX K H v (.type k.name) := by
  cases r with
  | non => cases e; exact .base .non
  | bl b => cases e; exact .base (.bl b)
  | int i => cases e; exact .base (.int i)
  | str z => cases e; exact .base (.str z)
  | tup h _ =>
    cases e
    rcases h with (h | ⟨o, h⟩) | ⟨o, its, n, h, c, _⟩
    · exact .base (.tup h)
    · exact .fTuple h
    · exact .kTuple h c
  | lst h _ =>
    cases e
    rcases h with (h | ⟨o, h⟩) | ⟨o, its, n, h, c, _⟩
    · exact .base (.lst h)
    · exact .base (.frz h)
    · exact .kList h c
  | fn n => cases e
  | ty t => cases e
def tysD : List D → Option (List Ty)
  | [] => some []
  | .ty t :: r => (tysD r).map (t :: ·)
  | _ :: _ => none
def gIsi (ws : List W) (S : Stor) : Res W := match ws with
  | [w, c] => match (valD S w).bind kdD, valD S c with
    | some k, some (.ty t) => .ok (.d (.bl (isK k t))) S
    | some k, some (.tup cs) => match tysD cs with
      | some ts => .ok (.d (.bl (ts.any (isK k)))) S
      | none => .bad
    | _, _ => .bad
  | _ => .bad
/-- isinstance with a tuple that is tracked -/
theorem tysD_rep {K : PySem.W.Frag} {F : Hp} : ∀ {xs : List D} {vs : List V} {ts : List Ty}, tysD xs = some ts → RepL K fa F vs xs → vs = ts.map fun t => V.ty t.name
  | [], _, _, e, .nil => by cases e; rfl
  | .ty i :: xs, _, is, e, .cons h r => by
    cases h
    unfold tysD at e
    cases q : tysD xs with
    | none => rw [q] at e; cases e
    | some js => rw [q] at e; cases e; rw [tysD_rep q r]; rfl
  | .non :: _, _, _, e, _ => by unfold tysD at e; cases e
  | .int _ :: _, _, _, e, _ => by unfold tysD at e; cases e
  | .bl _ :: _, _, _, e, _ => by unfold tysD at e; cases e
  | .str _ :: _, _, _, e, _ => by unfold tysD at e; cases e
  | .tup _ :: _, _, _, e, _ => by unfold tysD at e; cases e
  | .lst _ :: _, _, _, e, _ => by unfold tysD at e; cases e
  | .fn _ :: _, _, _, e, _ => by unfold tysD at e; cases e
theorem kitAny_of {K : PySem.W.Frag} {k : Kd} : ∀ ts : List Ty, PySem.W.kitAny K (.type k.name) (ts.map fun t => Value.type t.name) = some (ts.any (isK k))
  | [] => rfl
  | t :: ts => kitAny_cons (kit_ty (isK_ok k t)) (fun e => by rw [List.any_cons, e, Bool.false_or]; exact kitAny_of ts) (fun e => by rw [List.any_cons, e, Bool.true_or])
theorem cls_pair : ∀ ts : List Ty, Paired ClsV (ts.map fun t => V.ty t.name) (ts.map fun t => Value.type t.name)
  | [] => .nil
  | t :: ts => .cons (.ty t.name) (cls_pair ts)
/-- the tuple of classes as it may be read: tracked -/
def rIsiA (K : PySem.W.Frag) : List V → Hp → VK → Prop := fun xs H Q => rIsi K xs H Q ∨ ∃ (x : V) (tp : Addr) (ts : List Ty) (k : Kd), xs = [x, .ref tp] ∧ SqT K H tp (ts.map fun t => V.ty t.name) ∧ TyX K H x (.type k.name) ∧ Q (.bl (ts.any (isK k))) H
theorem call_isiA : CallR X (.builtin "isinstance") (rIsiA X.K) := by
  intro pins s sg H xs us Q I r h
  rcases h with h | ⟨x, tp, ts, k, rfl, hT, ty, q⟩
  · exact call_isi pins s sg H xs us Q I r h
  · obtain ⟨u1, u2, rfl, r1, r2⟩ := vals2 r
    cases (show u2 = Value.ref tp from r2)
    obtain ⟨P, Z, p, hx⟩ := kit_of I r1 ty
    obtain ⟨its, rv, ⟨o, h1, h2, n, h3⟩, _⟩ := I.tuple hT
    have e3 := ClsV.all (cls_pair ts) rv
    subst e3
    obtain ⟨oc, od, dt, sl⟩ := o
    simp only at h2 h3
    subst h2 h3
    exact PySem.W.kia_tup Z I.kIn p h1 (kitAny_of ts) hx fun tk => ⟨.bl _, H, I.tok tk, rfl, q⟩
theorem isiD : CallD X fa (rIsiA X.K) gIsi := by
  intro x m H S sg Wx vs ws Q s r h
  unfold gIsi at h
  split at h
  · rename_i w c
    obtain ⟨v, z, rfl, r1, r2⟩ := ws2 r
    split at h
    · rename_i k t e1 e2
      cases e0 : valD S w with
      | none => rw [e0] at e1; cases e1
      | some d =>
        rw [e0] at e1
        cases rep_val s r2 e2
        exact .inl ⟨v, _, _, _, _, rfl, .ty t.name, kd_rep (rep_val s r1 e0) e1, kit_ty (isK_ok k t), ok_use h s (.bl _)⟩
    · rename_i k cs e1 e2
      split at h
      · rename_i ts et
        cases e0 : valD S w with
        | none => rw [e0] at e1; cases e1
        | some d =>
          rw [e0] at e1
          obtain ⟨p, us, rfl, hp, rp⟩ := rep_tup s r2 e2
          exact .inr ⟨v, p, ts, k, rfl, by rw [← tysD_rep et rp]; exact hp, kd_rep (rep_val s r1 e0) e1, ok_use h s (.bl _)⟩
      · exact h.elim
    · exact h.elim
  · exact h.elim

/-! ### sorted -/
abbrev dle : D → D → Bool := PySem.W.dataLe false D.pd
theorem dle_total : PySem.W.TotalLe dle := PySem.W.sortLe_total _ _ _
def insD (x : D) : List D → List D
  | [] => [x]
  | y :: ys => if dle x y = true then x :: y :: ys else y :: insD x ys
def sortD : List D → List D
  | [] => []
  | x :: xs => insD x (sortD xs)
theorem insD_filter (c x : D) : ∀ m : List D, (insD x m).filter (PySem.W.sameRank dle c) = (x :: m).filter (PySem.W.sameRank dle c)
  | [] => rfl
  | y :: ys => by
    rw [insD]
    by_cases h : dle x y = true
    · rw [if_pos h]
    · rw [if_neg h, List.filter_cons, insD_filter c x ys, List.filter_cons, List.filter_cons (x := x) (xs := y :: ys), List.filter_cons (x := y) (xs := ys)]
      by_cases h1 : PySem.W.sameRank dle c x = true
      · by_cases h2 : PySem.W.sameRank dle c y = true
        · exfalso
          unfold PySem.W.sameRank at h1 h2
          rw [Bool.and_eq_true] at h1 h2
          exact h (dle_total.trans x c y h1.2 h2.1)
        · simp [h1, h2]
      · simp [h1]
theorem insD_mem (x : D) : ∀ (m : List D) (z : D), z ∈ insD x m → z = x ∨ z ∈ m
  | [], z, h => .inl (List.mem_singleton.mp h)
  | y :: ys, z, h => by
    rw [insD] at h
    by_cases c : dle x y = true
    · rw [if_pos c] at h
      exact List.mem_cons.mp h
    · rw [if_neg c] at h
      rcases List.mem_cons.mp h with h | h
      · exact .inr (by rw [h]; exact List.mem_cons_self)
      · rcases insD_mem x ys z h with h | h
        · exact .inl h
        · exact .inr (List.mem_cons_of_mem _ h)
theorem insD_pw (x : D) : ∀ m : List D, m.Pairwise (fun a b => dle a b = true) → (insD x m).Pairwise (fun a b => dle a b = true)
  | [], _ => List.pairwise_singleton _ _
  | y :: ys, h => by
    rw [insD]
    obtain ⟨h1, h2⟩ := List.pairwise_cons.mp h
    by_cases c : dle x y = true
    · rw [if_pos c]
      refine List.pairwise_cons.mpr ⟨fun z hz => ?_, h⟩
      rcases List.mem_cons.mp hz with e | hz
      · rw [e]; exact c
      · exact dle_total.trans x y z c (h1 z hz)
    · rw [if_neg c]
      refine List.pairwise_cons.mpr ⟨fun z hz => ?_, insD_pw x ys h2⟩
      rcases insD_mem x ys z hz with e | hz
      · rw [e]; exact (dle_total.total x y).elim (fun z => absurd z c) id
      · exact h1 z hz
theorem sortD_ms (xs : List D) : sortD xs = xs.mergeSort (PySem.W.dataLe false D.pd) := by
  refine PySem.W.sort_unique dle_total ?_ fun c => ?_
  · induction xs with
    | nil => exact .nil
    | cons x xs ih => exact insD_pw x _ ih
  · induction xs with
    | nil => rfl
    | cons x xs ih => rw [sortD, insD_filter, List.filter_cons, ih, List.filter_cons]
def sortOk (xs : List D) : Bool := xs.all okD && (xs.all fun a => xs.all fun b => PySem.W.alike a.pd b.pd) && decide (xs.length ≤ 16777216) &&
  ((xs.all fun a => match a with | .tup (_ :: _) => true | _ => false) || (xs.all fun a => match a with | .tup _ => false | .non => false | _ => true))
def gSorted (mu : Bool) (ws : List W) (S : Stor) : Res W := match ws with
  | [w] => match valD S w with
    | some (.lst xs) => if sortOk xs = true then fin mu (sortD xs) S else .bad
    | _ => .bad
  | _ => .bad
def rSortA (K : PySem.W.Frag) (fa : FA) : List V → Hp → VK → Prop := fun vs H Q => ∃ (a : Addr) (us : List V) (xs : List D) (F : Hp), vs = [V.ref a] ∧ SqL K H a us ∧ Same F H ∧ RepL K fa F us xs ∧ sortOk xs = true ∧
  ∀ (out : List V) (p : Addr), RepL K fa F out (sortD xs) → H p = none → Q (.ref p) (upd H p (.lst out))
theorem each_of {K : PySem.W.Frag} {F : Hp} : ∀ {vs : List V} {us : List Value} {xs : List D}, Vals vs us → RepL K fa F vs xs → PySem.W.EachIs (fun u d => ∃ v, RelV v u ∧ Rep K fa F v d) us xs
  | _, _, _, .nil, .nil => .nil
  | _, _, _, .cons r t, .cons h q => .cons ⟨_, r, h⟩ (each_of t q)
theorem each_back {K : PySem.W.Frag} {F : Hp} : ∀ {us : List Value} {xs : List D}, PySem.W.EachIs (fun u d => ∃ v, RelV v u ∧ Rep K fa F v d) us xs → ∃ vs, Vals vs us ∧ RepL K fa F vs xs
  | _, _, .nil => ⟨[], .nil, .nil⟩
  | _, _, .cons ⟨v, r, h⟩ t => by
    obtain ⟨vs, a, b⟩ := each_back t
    exact ⟨v :: vs, .cons r a, .cons h b⟩
theorem sortOk_split {xs : List D} (h : sortOk xs = true) : (∀ d ∈ xs, okD d = true) ∧ (∀ a ∈ xs, ∀ b ∈ xs, PySem.W.alike a.pd b.pd = true) ∧ xs.length ≤ 16777216 ∧
    ((∀ a ∈ xs, ∃ y r, a = .tup (y :: r)) ∨ ∀ a ∈ xs, a ≠ .non ∧ ∀ r, a ≠ .tup r) := by
  unfold sortOk at h
  simp only [Bool.and_eq_true, Bool.or_eq_true, List.all_eq_true, decide_eq_true_eq] at h
  refine ⟨h.1.1.1, h.1.1.2, h.1.2, ?_⟩
  rcases h.2 with z | z
  · refine .inl fun a ha => ?_
    have := z a ha
    split at this
    · exact ⟨_, _, rfl⟩
    · cases this
  · refine .inr fun a ha => ?_
    have := z a ha
    refine ⟨fun e => ?_, fun r e => ?_⟩ <;> (subst e; simp at this)
theorem okD_split {d : D} (h : okD d = true) : d.pure = true ∧ SeqAt.shaped d.pd = true := by
  unfold okD at h
  rw [Bool.and_eq_true] at h
  exact h
theorem call_sortA (hu : X.A.units + 66 < cLine) : CallR X (.builtin "sorted") (rSortA X.K fa) := by
  intro pins s sg H vs us Q I r h
  obtain ⟨a, ws, xs, F, rfl, hs, hF, hr, ok, q⟩ := h
  obtain ⟨o1, o2, o3, o4⟩ := sortOk_split ok
  obtain ⟨its, rv, hl, hz⟩ := I.list hs
  rw [Vals.ref1 r]
  have e0 := each_of rv hr
  have er : PySem.W.EachIs (fun u d => ∃ as, Reads s.heap u d.pd as) its xs := by
    refine PySem.W.EachIs.of_zip e0.length fun p hp => ?_
    obtain ⟨v, r1, r2⟩ := e0.zip p hp
    have hm : p.2 ∈ xs := (List.of_mem_zip (a := p.1) (b := p.2) hp).2
    exact Dp.reads I _ v p.1 (Rep.dp _ v (Rep.mono hF _ v r2) (okD_split (o1 _ hm)).1) r1
  have hal : PySem.W.AllAlike (xs.map D.pd) := fun d hd d' hd' => by
    obtain ⟨b, hb, rfl⟩ := List.mem_map.mp hd
    obtain ⟨b', hb', rfl⟩ := List.mem_map.mp hd'
    exact o2 b hb b' hb'
  have hso : PySem.W.Sortable (xs.map D.pd) := by
    rcases o4 with o4 | o4
    · refine .inl fun d hd => ?_
      obtain ⟨b, hb, rfl⟩ := List.mem_map.mp hd
      obtain ⟨y, t, rfl⟩ := o4 b hb
      exact ⟨y.pd, pds t, by rw [D.pd, pds]⟩
    · refine .inr fun d hd => ?_
      obtain ⟨b, hb, rfl⟩ := List.mem_map.mp hd
      obtain ⟨n1, n2⟩ := o4 b hb
      have pb := (okD_split (o1 _ hb)).1
      cases b with
      | non => exact absurd rfl n1
      | tup t => exact absurd rfl (n2 t)
      | fn n => rw [D.pure] at pb; cases pb
      | ty n => rw [D.pure] at pb; cases pb
      | bl _ => rw [D.pd]; exact ⟨fun z => (by cases z), fun _ z => (by cases z)⟩
      | int _ => rw [D.pd]; exact ⟨fun z => (by cases z), fun _ z => (by cases z)⟩
      | str _ => rw [D.pd]; exact ⟨fun z => (by cases z), fun _ z => (by cases z)⟩
      | lst _ => rw [D.pd]; exact ⟨fun z => (by cases z), fun _ z => (by cases z)⟩
  refine PySem.W.sorted_data (enc := D.pd) hl.isList e0 er hal hso (by rw [← sl16]; exact o3) (fun b hb => ?_) fun out hlen hout => ?_
  · have := SeqAt.depth_of_shaped (okD_split (o1 b hb)).2
    omega
  · rw [← sortD_ms] at hout
    obtain ⟨zs, k1, k2⟩ := each_back hout
    obtain ⟨ep, he'⟩ := PyProof.Rows.sortedAll_at s.heap its out.toArray
    have hle : zs.length ≤ sizeLine := by
      rw [k1.length, hlen, ← sl16]; exact o3
    exact ⟨.ref _, upd H (s.heap.objs.size + 1) (.lst zs), I.laid (t' := s.toks) (fun _ _ => PyProof.Rows.sortedAll_old) (Nat.le_succ _) ⟨hle, out, ep, k1, he'⟩, rfl, q _ _ k2 (I.hok.fresh (Nat.le_succ _))⟩
theorem sortedD (mu : Bool) : CallD X fa (rSortA X.K fa) (gSorted mu) := by
  intro x m H S sg Wx vs ws Q s r h
  unfold gSorted at h
  split at h
  · rename_i w
    obtain ⟨v, rfl, rv⟩ := ws1 r
    split at h
    · rename_i xs ew
      split at h
      · rename_i ok
        obtain ⟨p, us, rfl, hp, rp⟩ := rep_lst s rv ew
        exact ⟨p, us, xs, _, rfl, hp, fz_sub, rp, ok, fun out l ro hl => fin_use h s ro l hl⟩
      · exact h.elim
    · exact h.elim
  · exact h.elim
end
end DL
namespace DL
open PySem PySem.Spec PyProof.Rows L2

/-! ### targets -/
/-- only the slots ns may differ -/
def Only (ns : List Nat) (sg sg' : L2.St) : Prop := sg'.length = sg.length ∧ ∀ j, j ∉ ns → sg'[j]? = sg[j]?
theorem Only.refl {ns : List Nat} {sg : L2.St} : Only ns sg sg := ⟨rfl, fun _ _ => rfl⟩
theorem Only.trans {ns ms : List Nat} {a b c : L2.St} (h : Only ns a b) (k : Only ms b c) : Only (ns ++ ms) a c :=
  ⟨k.1.trans h.1, fun j hj => (k.2 j fun z => hj (List.mem_append_right _ z)).trans (h.2 j fun z => hj (List.mem_append_left _ z))⟩
theorem Only.set {i : Nat} {sg : L2.St} {v : Option V} : Only [i] sg (sg.set i v) := ⟨by simp, fun j hj => List.getElem?_set_ne fun e => hj (by rw [e]; simp)⟩
theorem wipe_get (sg : L2.St) : ∀ (vs : List Nat) (j : Nat), (wipe sg vs)[j]? = if j ∈ vs then (if j < sg.length then some none else none) else sg[j]?
  | [], j => by simp [wipe]
  | v :: vs, j => by
    unfold wipe
    by_cases h : v = j
    · subst h
      rw [if_pos List.mem_cons_self]
      by_cases hl : v < sg.length
      · rw [if_pos hl, List.getElem?_set_self (by rw [wipe_length]; exact hl)]
      · rw [if_neg hl, List.getElem?_eq_none (by rw [List.length_set, wipe_length]; omega)]
    · rw [List.getElem?_set_ne h, wipe_get sg vs j]
      simp only [List.mem_cons, Ne.symm h, false_or]
theorem wipe_only {ns vs : List Nat} {sg sg' : L2.St} (h : Only ns sg sg') (hs : ∀ n ∈ ns, n ∈ vs) : wipe sg' vs = wipe sg vs := by
  refine List.ext_getElem? fun j => ?_
  rw [wipe_get, wipe_get]
  by_cases hj : j ∈ vs
  · rw [if_pos hj, if_pos hj, h.1]
  · rw [if_neg hj, if_neg hj, h.2 j fun z => hj (hs j z)]
theorem wipe_wipe (sg : L2.St) (vs : List Nat) : wipe (wipe sg vs) vs = wipe sg vs := by
  refine List.ext_getElem? fun j => ?_
  rw [wipe_get, wipe_get, wipe_length]
  by_cases hj : j ∈ vs
  · rw [if_pos hj, if_pos hj]
  · rw [if_neg hj, if_neg hj]
abbrev Tgt := W → Rho → Stor → Option Rho
/-- a target's reading -/
def TGd (K : PySem.W.Frag) (fa : FA) (ns : List Nat) (g : Tgt) : TG := fun v sg H Q => ∃ x m rho S w rho', At K fa x m sg H rho S ∧ RepW K fa (fz (m ++ x) H) m v w ∧ g w rho S = some rho' ∧
  ∀ sg', Only ns sg sg' → ERel K fa (fz (m ++ x) H) m sg' rho' → Q sg' H
abbrev DG (X : Cx) (fa : FA) (e : Expr) (ns : List Nat) (g : Tgt) : Prop := PG X e (TGd X.K fa ns g)
theorem PG.imp {X : Cx} {e : Expr} {t t' : TG} (h : PG X e t) (k : ∀ v sg H Q, t' v sg H Q → t v sg H Q) : PG X e t' := ⟨fun pins s sg H v u Q I r q => h.run pins s sg H v u Q I r (k v sg H Q q)⟩
theorem PGs.imp {X : Cx} {e : List Expr} {t t' : TGs} (h : PGs X e t) (k : ∀ v sg H Q, t' v sg H Q → t v sg H Q) : PGs X e t' := ⟨fun pins s sg H v u Q I r q => h.run pins s sg H v u Q I r (k v sg H Q q)⟩
def tgN (i : Nat) : Tgt := fun w rho _ => some (rho.set i (some w))
theorem dg_name {X : Cx} {fa : FA} {e : Expr} {i : Nat} (h : PG X e (gName i)) : DG X fa e [i] (tgN i) := by
  refine PG.imp h fun v sg H Q ⟨x, m, rho, S, w, rho', at_, r, e, q⟩ => ?_
  cases e
  exact q _ Only.set (at_.e.set i r)
/-- several, of several values -/
def TGsd (K : PySem.W.Frag) (fa : FA) (ns : List Nat) (g : List W → Rho → Stor → Option Rho) : TGs := fun vs sg H Q => ∃ x m rho S ws rho', At K fa x m sg H rho S ∧ RepWs K fa (fz (m ++ x) H) m vs ws ∧ g ws rho S = some rho' ∧
  ∀ sg', Only ns sg sg' → ERel K fa (fz (m ++ x) H) m sg' rho' → Q sg' H
abbrev DGs (X : Cx) (fa : FA) (es : List Expr) (ns : List Nat) (g : List W → Rho → Stor → Option Rho) : Prop := PGs X es (TGsd X.K fa ns g)
def tgNil : List W → Rho → Stor → Option Rho := fun ws rho _ => match ws with
  | [] => some rho
  | _ => none
def tgCons (g : Tgt) (gs : List W → Rho → Stor → Option Rho) : List W → Rho → Stor → Option Rho := fun ws rho S => match ws with
  | w :: r => (g w rho S).bind fun rho' => gs r rho' S
  | [] => none
theorem dgs_nil {X : Cx} {fa : FA} : DGs X fa [] [] tgNil := by
  refine PGs.imp pgs_nil fun vs sg H Q ⟨x, m, rho, S, ws, rho', at_, r, e, q⟩ => ?_
  cases r with
  | nil =>
    cases e
    exact ⟨rfl, q sg Only.refl at_.e⟩
  | cons _ _ => cases e
theorem dgs_cons {X : Cx} {fa : FA} {e : Expr} {es : List Expr} {ns ms : List Nat} {g : Tgt} {gs : List W → Rho → Stor → Option Rho} (h1 : DG X fa e ns g) (h2 : DGs X fa es ms gs)
    (hs : (assignEach (e :: es) X.env).map (·.2) = assign e X.env :: (assignEach es X.env).map (·.2) := by rfl) : DGs X fa (e :: es) (ns ++ ms) (tgCons g gs) := by
  refine PGs.imp (pgs_cons h1 h2 hs) fun vs sg H Q ⟨x, m, rho, S, ws, rho', at_, r, e, q⟩ => ?_
  cases r with
  | nil => cases e
  | @cons v vr w wr r1 rs =>
    unfold tgCons at e
    dsimp only at e
    cases eg : g w rho S with
    | none => rw [eg] at e; cases e
    | some rho1 =>
      rw [eg] at e
      refine ⟨v, vr, rfl, x, m, rho, S, w, rho1, at_, r1, eg, fun sg1 o1 e1 => ?_⟩
      exact ⟨x, m, rho1, S, wr, rho', ⟨at_.s, e1⟩, rs, e, fun sg2 o2 e2 => q sg2 (o1.trans o2) e2⟩
/-- (a, b, ..) = a tuple -/
def tgTup (n : Nat) (gs : List W → Rho → Stor → Option Rho) : Tgt := fun w rho S => match valD S w with
  | some (.tup xs) => if xs.length = n then gs (xs.map W.d) rho S else none
  | _ => none
theorem repWs_map {K : PySem.W.Frag} {fa : FA} {F : Hp} {m : List Addr} : ∀ {vs : List V} {xs : List D}, RepL K fa F vs xs → RepWs K fa F m vs (xs.map W.d)
  | _, _, .nil => .nil
  | _, _, .cons h r => .cons h (repWs_map r)
theorem dg_tup {X : Cx} {fa : FA} {es : List Expr} {k : Nat} {pos : Pos} {ns : List Nat} {n : Nat} {gs : List W → Rho → Stor → Option Rho} (hc : X.calm = true) (h : DGs X fa es ns gs)
    (hn : (assignEach es X.env).length = n := by rfl) (hst : (assignEach es X.env).findIdx? (·.1) = none := by rfl) : DG X fa (.Tuple es k pos) ns (tgTup n gs) := by
  refine PG.imp (pg_tup hc h hn hst) fun v sg H Q ⟨x, m, rho, S, w, rho', at_, r, e, q⟩ => ?_
  unfold tgTup at e
  split at e
  · rename_i xs ew
    split at e
    · rename_i hl
      obtain ⟨p, us, rfl, hp, rp⟩ := rep_tup at_.s r ew
      exact ⟨p, us, rfl, hp, by rw [rp.length]; exact hl, x, m, rho, S, xs.map W.d, rho', at_, repWs_map rp, e, q⟩
    · cases e
  · cases e

/-! ### what is walked -/
structure Wlk where
  items : List D
  cell : Option (Stor → Bool)
mutual
def D.beq : D → D → Bool
  | .non, .non => true
  | .bl a, .bl b => a == b
  | .int a, .int b => a == b
  | .str a, .str b => decide (a = b)
  | .tup a, .tup b => beqs a b
  | .lst a, .lst b => beqs a b
  | .fn a, .fn b => a == b
  | .ty a, .ty b => decide (a = b)
  | _, _ => false
def beqs : List D → List D → Bool
  | [], [] => true
  | x :: xs, y :: ys => x.beq y && beqs xs ys
  | _, _ => false
end
mutual
theorem D.eq_of_beq : ∀ a b : D, a.beq b = true → a = b
  | .non, b, h => by cases b <;> first | rfl | (simp [D.beq] at h)
  | .bl x, b, h => by cases b <;> first | (simp [D.beq] at h; subst h; rfl) | (simp [D.beq] at h)
  | .int x, b, h => by cases b <;> first | (simp [D.beq] at h; subst h; rfl) | (simp [D.beq] at h)
  | .str x, b, h => by cases b <;> first | (simp [D.beq] at h; subst h; rfl) | (simp [D.beq] at h)
  | .fn x, b, h => by cases b <;> first | (simp [D.beq] at h; subst h; rfl) | (simp [D.beq] at h)
  | .ty x, b, h => by cases b <;> first | (simp [D.beq] at h; subst h; rfl) | (simp [D.beq] at h)
  | .tup x, b, h => by
    cases b with
    | tup y => simp only [D.beq] at h; rw [eq_of_beqs x y h]
    | _ => simp [D.beq] at h
  | .lst x, b, h => by
    cases b with
    | lst y => simp only [D.beq] at h; rw [eq_of_beqs x y h]
    | _ => simp [D.beq] at h
theorem eq_of_beqs : ∀ a b : List D, beqs a b = true → a = b
  | [], [], _ => rfl
  | [], _ :: _, h => by simp [beqs] at h
  | _ :: _, [], h => by simp [beqs] at h
  | x :: xs, y :: ys, h => by
    simp only [beqs, Bool.and_eq_true] at h
    rw [D.eq_of_beq x y h.1, eq_of_beqs xs ys h.2]
end
mutual
theorem D.beq_self : ∀ a : D, a.beq a = true
  | .non => by simp [D.beq]
  | .bl x => by simp [D.beq]
  | .int x => by simp [D.beq]
  | .str x => by simp [D.beq]
  | .fn x => by simp [D.beq]
  | .ty x => by simp [D.beq]
  | .tup x => by simp only [D.beq]; exact beqs_self x
  | .lst x => by simp only [D.beq]; exact beqs_self x
theorem beqs_self : ∀ a : List D, beqs a a = true
  | [] => by simp [beqs]
  | x :: xs => by simp only [beqs, Bool.and_eq_true]; exact ⟨D.beq_self x, beqs_self xs⟩
end
def cellOk (it : Wlk) (S : Stor) : Bool := match it.cell with
  | none => true
  | some c => c S
/-- the n-th cell is a list of these -/
def isLst (n : Nat) (xs : List D) (S : Stor) : Bool := match S[n]? with
  | some (.lst ys) => beqs ys xs
  | _ => false
theorem isLst_at {n : Nat} {xs : List D} {S : Stor} (h : isLst n xs S = true) : S[n]? = some (.lst xs) := by
  unfold isLst at h
  split at h
  · rename_i ys q
    rw [q, eq_of_beqs _ _ h]
  · cases h
def rngD (lo : Int) (n : Nat) : List D := (List.range n).map fun (k : Nat) => D.int (lo + (k : Int))
/-- what the i-th turn gives, from this state -/
def WalkAt (K : PySem.W.Frag) (fa : FA) (x m : List Addr) (H : Hp) (S : Stor) (J : It) (it : Wlk) (i : Nat) : Prop :=
  (i < it.items.length → J.go i H) ∧ (it.items.length = i → J.stop i H) ∧ ∀ v H', i < it.items.length → J.yld i H v H' → ∃ d, it.items[i]? = some d ∧ Step m H m H' ∧ SRel K fa x m H' S ∧ Rep K fa (fz (m ++ x) H') v d
/-- what is walked, told: from here on, as long as its cells stand -/
def RelI (K : PySem.W.Frag) (fa : FA) (F : Hp) (m : List Addr) (J : It) (it : Wlk) : Prop :=
  ∀ (x m' : List Addr) (H' : Hp) (S : Stor), (∃ t, m' = m ++ t) → Same F (fz (m' ++ x) H') → SRel K fa x m' H' S → cellOk it S = true → ∀ i, WalkAt K fa x m' H' S J it i
section
variable {K : PySem.W.Frag} {fa : FA} {x m : List Addr} {H : Hp} {S : Stor}
theorem RelI.step {m' : List Addr} {H' : Hp} (s : Step m H m' H') {J : It} {it : Wlk} (h : RelI K fa (fz (m ++ x) H) m J it) : RelI K fa (fz (m' ++ x) H') m' J it := fun x2 m2 H2 S2 ⟨t2, e2⟩ e f c => by
  obtain ⟨t, e1⟩ := s.pre
  exact h x2 m2 H2 S2 ⟨t ++ t2, by rw [e2, e1, List.append_assoc]⟩ (fun b o z => e _ _ (s.fz _ _ z)) f c
theorem SRel.laidT (s : SRel K fa x m H S) {p : Addr} {vs : List V} {xs : List D} (h : H p = none) (r : RepL K fa (fz (m ++ x) H) vs xs) : Rep K fa (fz (m ++ x) (upd H p (.tup vs))) (.ref p) (.tup xs) := by
  obtain ⟨o1, o2⟩ := s.off h
  exact .tup (.inl (.inl (fz_of (fun z => (List.mem_append.mp z).elim o1 o2) upd_same))) (RepL.mono (Step.laid h).fz xs vs r)
theorem RelI.walk {J : It} {it : Wlk} (h : RelI K fa (fz (m ++ x) H) m J it) (s : SRel K fa x m H S) (c : cellOk it S = true) (i : Nat) :
    (i < it.items.length → J.go i H) ∧ (it.items.length = i → J.stop i H) ∧ ∀ v H', i < it.items.length → J.yld i H v H' → ∃ d, it.items[i]? = some d ∧ Step m H m H' ∧ SRel K fa x m H' S ∧ Rep K fa (fz (m ++ x) H') v d :=
  h x m H S ⟨[], by simp⟩ (fun _ _ z => z) s c i
theorem walkSeq {vs : List V} {xs : List D} {J : It} {it : Wlk} {i : Nat} (e : it.items = xs) (s : SRel K fa x m H S) (r : RepL K fa (fz (m ++ x) H) vs xs) (hg : ∀ v, vs[i]? = some v → J.go i H) (hs : vs.length ≤ i → J.stop i H) (hy : ∀ v H', J.yld i H v H' → H' = H ∧ vs[i]? = some v) : WalkAt K fa x m H S J it i := by
  have hl := r.length
  refine ⟨fun hi => ?_, fun hi => hs (by rw [hl, ← e]; exact Nat.le_of_eq hi), fun v H' hi y => ?_⟩
  · rw [e] at hi
    obtain ⟨v, e, _⟩ := r.get (List.getElem?_eq_getElem hi)
    exact hg v e
  · obtain ⟨rfl, hv⟩ := hy v H' y
    obtain ⟨d, e2, rd⟩ := r.get' hv
    exact ⟨d, by rw [e]; exact e2, Step.refl _ _, s, rd⟩
theorem RelI.lst {F : Hp} {a : Addr} {vs : List V} {xs : List D} (h : SqL K F a vs) (r : RepL K fa F vs xs) : RelI K fa F m (Itl K a) ⟨xs, none⟩ := fun x2 m2 H2 S2 _ e s _ i => by
  have h' : SqL K H2 a vs := fz_sub.seq (e.seq h)
  exact walkSeq rfl s (RepL.mono e _ _ r) (fun v q => ⟨vs, v, h', q⟩) (fun hi => ⟨vs, h', hi⟩) fun v H' y => ⟨y.1, y.2 vs h'⟩
theorem RelI.tup {F : Hp} {a : Addr} {vs : List V} {xs : List D} (h : SqT K F a vs) (r : RepL K fa F vs xs) : RelI K fa F m (Itt K a) ⟨xs, none⟩ := fun x2 m2 H2 S2 _ e s _ i => by
  have h' : SqT K H2 a vs := same_sqt fz_sub (same_sqt e h)
  exact walkSeq rfl s (RepL.mono e _ _ r) (fun v q => ⟨vs, v, h', q⟩) (fun hi => ⟨vs, h', hi⟩) fun v H' y => ⟨y.1, y.2 vs h'⟩
theorem RelI.cell {F : Hp} {a : Addr} {n : Nat} {xs : List D} (h : m[n]? = some a) : RelI K fa F m (Itl K a) ⟨xs, some (isLst n xs)⟩ := fun x2 m2 H2 S2 ⟨t, e2⟩ e s c i => by
  have c' := isLst_at (show isLst n xs S2 = true from c)
  have ha : m2[n]? = some a := by rw [e2, List.getElem?_append_left (List.getElem?_eq_some_iff.mp h).1]; exact h
  obtain ⟨vs, h1, r⟩ := s.cell n a _ ha c'
  have h' : SqL K H2 a vs := .inl (.inl h1)
  exact walkSeq rfl s r (fun v q => ⟨vs, v, h', q⟩) (fun hi => ⟨vs, h', hi⟩) fun v H' y => ⟨y.1, y.2 vs h'⟩
theorem RelI.rng {F : Hp} (lo : Int) (n : Nat) : RelI K fa F m (Itr lo n) ⟨rngD lo n, none⟩ := fun x2 m2 H2 S2 _ e s _ i => by
  have hl : (rngD lo n).length = n := by simp [rngD]
  refine ⟨fun hi => ?_, fun hi => ?_, fun v H' hi hy => ?_⟩
  · rw [show (Wlk.mk (rngD lo n) none).items.length = n from hl] at hi; exact hi
  · rw [show (Wlk.mk (rngD lo n) none).items.length = n from hl] at hi; exact Nat.le_of_eq hi
  · obtain ⟨rfl, rfl⟩ := hy
    rw [show (Wlk.mk (rngD lo n) none).items.length = n from hl] at hi
    refine ⟨.int (lo + i), ?_, Step.refl _ _, s, .int _⟩
    show (rngD lo n)[i]? = _
    unfold rngD
    rw [List.getElem?_map, List.getElem?_range hi]
    rfl
theorem RelI.enum {F : Hp} {a : Addr} {vs : List V} {xs : List D} (h : SqL K F a vs) (r : RepL K fa F vs xs) : RelI K fa F m (Ite K a) ⟨xs.zipIdx.map fun p => .tup [.int p.2, p.1], none⟩ := fun x2 m2 H2 S2 _ e s _ i => by
  have h' : SqL K H2 a vs := fz_sub.seq (e.seq h)
  have r := RepL.mono e _ _ r
  have hl := r.length
  have hL : (xs.zipIdx.map fun p => D.tup [.int p.2, p.1]).length = xs.length := by simp
  refine ⟨fun hi => ?_, fun hi => ⟨vs, h', by rw [hl, ← hL]; exact Nat.le_of_eq hi⟩, fun v H' hi hy => ?_⟩
  · have hi' : i < xs.length := by rw [← hL]; exact hi
    obtain ⟨v, e, _⟩ := r.get (List.getElem?_eq_getElem hi')
    exact ⟨vs, v, h', e⟩
  · obtain ⟨p, y, rfl, hp, rfl, hv⟩ := hy
    obtain ⟨d, e, rd⟩ := r.get' (hv vs h')
    refine ⟨.tup [.int i, d], ?_, Step.laid hp, s.laid hp, s.laidT hp (.cons (.int _) (.cons rd .nil))⟩
    show (xs.zipIdx.map fun p => D.tup [.int p.2, p.1])[i]? = _
    rw [List.getElem?_map, List.getElem?_zipIdx, e]
    simp
end
abbrev TIt (K : PySem.W.Frag) (fa : FA) (Wx : WX) (f : Den Wlk) : TI := T K fa Wx (fun F m J it => RelI K fa F m J it) f
abbrev DI (X : Cx) (fa : FA) (Wx : WX) (tg iter : Expr) (f : Den Wlk) : Prop := PI X tg iter (TIt X.K fa Wx f)
theorem PI.imp {X : Cx} {tg e : Expr} {t t' : TI} (h : PI X tg e t) (k : ∀ sg H Q, t' sg H Q → t sg H Q) : PI X tg e t' := ⟨fun pins s sg H Q I q => h.run pins s sg H Q I (k sg H Q q)⟩
section
variable {X : Cx} {fa : FA} {Wx : WX} {tg e : Expr} {f : Den W}
/-- a list or a tuple, as it comes -/
theorem pi_seq {tl : TE} (hl : PE X e tl) : PI X tg e (fun sg H R => tl sg H fun v H1 => ∃ a, v = .ref a ∧ (((∃ xs, SqL X.K H1 a xs) ∧ R (Itl X.K a) H1) ∨ ((∃ xs, SqT X.K H1 a xs) ∧ R (Itt X.K a) H1))) := by
  refine ⟨fun pins s sg H R I h => ?_⟩
  refine thn (hl.run pins s sg H _ I h) fun v s1 ⟨y, H1, I1, r1, a, e1, q1⟩ => ?_
  subst e1
  cases r1
  rcases q1 with ⟨⟨xs, hq⟩, q⟩ | ⟨⟨xs, hq⟩, q⟩
  · obtain ⟨its, rv, pl, hz⟩ := I1.list hq
    refine wpAny_pyIter_list pl.isList ⟨s1.heap.objs.size, [s1.heap.objs.size], _, _, H1, rfl, I1.kept (t' := s1.toks) (fun b o z => Heap.get?_push_of_some _ z), turn_list a _, ⟨_, Heap.get?_push_size _ rfl, rfl, rfl⟩, fun b hb => ?_, q⟩
    cases List.mem_singleton.mp hb
    exact I1.fpOk (Nat.le_refl _) I1.fresh
  · obtain ⟨its, rv, pt, hz⟩ := I1.tuple hq
    refine wpAny_pyIter_tuple (show s1.heap.IsTuple a its.toArray from pt) ⟨s1.heap.objs.size, [s1.heap.objs.size], _, _, H1, rfl, I1.kept (t' := s1.toks) (fun b o z => Heap.get?_push_of_some _ z), turn_tuple a _, ⟨_, Heap.get?_push_size _ rfl, rfl, rfl⟩, fun b hb => ?_, q⟩
    cases List.mem_singleton.mp hb
    exact I1.fpOk (Nat.le_refl _) I1.fresh
def kSeq (w : W) (S : Stor) : Res Wlk := match w with
  | .d (.lst xs) => .ok ⟨xs, none⟩ S
  | .d (.tup xs) => .ok ⟨xs, none⟩ S
  | .r n => match S[n]? with
    | some (.lst xs) => .ok ⟨xs, some (isLst n xs)⟩ S
    | _ => .bad
  | _ => .bad
def dSeq (f : Den W) : Den Wlk := fun rho S => (f rho S).bind kSeq
theorem di_seq (h : DE X fa Wx e f) : DI X fa Wx tg e (dSeq f) := by
  refine PI.imp (pi_seq h) fun sg H Q hq => ?_
  show T X.K fa Wx (relW X.K fa) f sg H _
  refine T.one (r3 := fun F m J it => RelI X.K fa F m J it) (g := fun _ => kSeq) (fun _ _ _ q => q) (fun x m H S v a rho at_ ra q => ?_) hq
  cases a with
  | l => exact q.elim
  | d y =>
    cases y with
    | lst xs =>
      cases ra with
      | lst h1 h2 => exact ⟨_, rfl, .inl ⟨⟨_, fz_sub.seq h1⟩, After.ok (w := Wlk.mk xs none) q at_.s (.lst h1 h2)⟩⟩
    | tup xs =>
      cases ra with
      | tup h1 h2 => exact ⟨_, rfl, .inr ⟨⟨_, same_sqt fz_sub h1⟩, After.ok (w := Wlk.mk xs none) q at_.s (.tup h1 h2)⟩⟩
    | _ => exact (show False from q).elim
  | r n =>
    obtain ⟨a, ha, rfl⟩ := ra
    unfold kSeq at q
    dsimp only at q
    split at q
    · rename_i xs ec
      obtain ⟨vs, h1, h2⟩ := at_.s.cell n a _ ha ec
      exact ⟨_, rfl, .inl ⟨⟨vs, .inl (.inl h1)⟩, After.ok q at_.s (.cell ha)⟩⟩
    · exact q.elim
/-- range -/
def kR1 (ws : List W) (S : Stor) : Res Wlk := match ws with
  | [w] => match valD S w with
    | some (.int j) => if (decide (-(2 ^ 62) ≤ j) && decide (j < 2 ^ 62)) = true then .ok ⟨rngD 0 j.toNat, none⟩ S else .bad
    | _ => .bad
  | _ => .bad
def dR1 (fs : Den (List W)) : Den Wlk := fun rho S => (fs rho S).bind kR1
theorem di_r1 {a : Expr} {fs : Den (List W)} {p pos : Pos} (hg : Gl X "range") (hm : X.mg "range" = none) (ha : DA X fa Wx [a] fs) (hs : starEach [a] X.env = [(false, eval a X.env)] := by rfl) : DI X fa Wx tg (.Call (.Name "range" p) [a] [] pos) (dR1 fs) := by
  refine PI.imp (pi_range1 hg hm ha hs) fun sg H Q hq => ?_
  show T X.K fa Wx (fun F m vs ws => RepWs X.K fa F m vs ws) fs sg H _
  refine T.one (r3 := fun F m J it => RelI X.K fa F m J it) (g := fun _ => kR1) (fun _ _ _ q => q) (fun x m H S v a rho at_ ra q => ?_) hq
  unfold kR1 at q
  split at q
  · obtain ⟨v', rfl, rv⟩ := ws1 ra
    split at q
    · rename_i j ej
      split at q
      · rename_i hj
        rw [Bool.and_eq_true, decide_eq_true_eq, decide_eq_true_eq] at hj
        exact ⟨j, by rw [rep_int at_.s rv ej], hj.1, hj.2, After.ok q at_.s (.rng 0 j.toNat)⟩
      · exact q.elim
    · exact q.elim
  · exact q.elim
def kR2 (ws : List W) (S : Stor) : Res Wlk := match ws with
  | [w, u] => match valD S w, valD S u with
    | some (.int i), some (.int j) => if (decide (-(2 ^ 62) ≤ i) && decide (i < 2 ^ 62) && decide (-(2 ^ 62) ≤ j) && decide (j < 2 ^ 62)) = true then .ok ⟨rngD i (j - i).toNat, none⟩ S else .bad
    | _, _ => .bad
  | _ => .bad
def dR2 (fs : Den (List W)) : Den Wlk := fun rho S => (fs rho S).bind kR2
theorem di_r2 {a b : Expr} {fs : Den (List W)} {p pos : Pos} (hg : Gl X "range") (hm : X.mg "range" = none) (ha : DA X fa Wx [a, b] fs) (hs : starEach [a, b] X.env = [(false, eval a X.env), (false, eval b X.env)] := by rfl) (hs2 : starEach [b] X.env = [(false, eval b X.env)] := by rfl) :
    DI X fa Wx tg (.Call (.Name "range" p) [a, b] [] pos) (dR2 fs) := by
  refine PI.imp (pi_range2 hg hm ha hs hs2) fun sg H Q hq => ?_
  show T X.K fa Wx (fun F m vs ws => RepWs X.K fa F m vs ws) fs sg H _
  refine T.one (r3 := fun F m J it => RelI X.K fa F m J it) (g := fun _ => kR2) (fun _ _ _ q => q) (fun x m H S v a rho at_ ra q => ?_) hq
  unfold kR2 at q
  split at q
  · obtain ⟨v', z', rfl, rv, rz⟩ := ws2 ra
    split at q
    · rename_i i j ei ej
      split at q
      · rename_i hj
        simp only [Bool.and_eq_true, decide_eq_true_eq] at hj
        exact ⟨i, j, by rw [rep_int at_.s rv ei, rep_int at_.s rz ej], ⟨hj.1.1.1, hj.1.1.2, hj.1.2, hj.2⟩, After.ok q at_.s (.rng i (j - i).toNat)⟩
      · exact q.elim
    · exact q.elim
  · exact q.elim
end

/-! ### list comprehensions -/
def wipeR (rho : Rho) : List Nat → Rho
  | [] => rho
  | v :: vs => (wipeR rho vs).set v none
theorem ERel.wipe {K : PySem.W.Frag} {fa : FA} {F : Hp} {m : List Addr} {sg : L2.St} {rho : Rho} (h : ERel K fa F m sg rho) : ∀ vs : List Nat, ERel K fa F m (wipe sg vs) (wipeR rho vs)
  | [] => h
  | v :: vs => by
    have ih := ERel.wipe h vs
    refine ⟨by unfold L2.wipe wipeR; simp [ih.len], fun j w e => ?_⟩
    unfold wipeR at e
    unfold L2.wipe
    by_cases hj : v = j
    · subst hj
      by_cases hl : v < (wipeR rho vs).length
      · rw [List.getElem?_set_self hl] at e; cases e
      · rw [List.getElem?_eq_none (by simpa using hl)] at e; cases e
    · rw [List.getElem?_set_ne hj] at e ⊢
      exact ih.get j w e
/-- nothing is let out -/
def Res.calm {α : Type} : Res α → Res α
  | .exc _ _ => .bad
  | r => r
def W0 : WX := fun _ _ _ _ => False
theorem takes00 {X : Cx} : Takes X W0 := takes0
theorem After.calm {α β : Type} {K : PySem.W.Frag} {fa : FA} {x m : List Addr} {H : Hp} {sg : L2.St} {Wx : WX} {rel : Rl β α} {Q : β → Hp → Prop} {r : Res α} (h : After K fa x m H sg Wx rel Q r.calm) : After K fa x m H sg W0 rel Q r := by
  cases r with
  | ok w S => exact h
  | exc e S => exact (show False from h).elim
  | bad => exact h
/-- the items that a comprehension makes -/
def lcGo (it : Wlk) (tg : Tgt) (ft : Den Bool) (fe : Den W) (rho0 : Rho) : List D → Stor → Res (List D)
  | [], S => if cellOk it S = true then .ok [] S else .bad
  | d :: ds, S => if cellOk it S = true then match tg (.d d) rho0 S with
      | none => .bad
      | some rho1 => (ft rho1 S).calm.bind fun b S1 => if b = true then (fe rho1 S1).calm.bind fun w S2 => match w with
          | .d y => (lcGo it tg ft fe rho0 ds S2).bind fun ys S3 => .ok (y :: ys) S3
          | .r _ => .bad
          | .l => .bad
        else lcGo it tg ft fe rho0 ds S1
    else .bad
/-- the list made: acc, then what comes -/
def lcEnd (mu : Bool) (acc : List D) (r : Res (List D)) : Res W := r.calm.bind fun ys S2 => if (acc ++ ys).length ≤ 16777216 then fin mu (acc ++ ys) S2 else .bad
def dLc (mu : Bool) (fi : Den Wlk) (tg : Tgt) (ft : Den Bool) (fe : Den W) (own : List Nat) : Den W := fun rho S => (fi rho S).bind fun it S1 =>
  lcEnd mu [] (lcGo it tg ft fe (wipeR rho own) it.items S1)
section
variable {K : PySem.W.Frag} {fa : FA}
theorem SRel.hide {x m : List Addr} {H : Hp} {S : Stor} (s : SRel K fa x m H S) {p : Addr} {vs : List V} (h : H p = none) : SRel K fa (p :: x) m (upd H p (.lst vs)) S := by
  obtain ⟨o1, o2⟩ := s.off h
  have same : Same (fz (m ++ x) H) (fz (m ++ p :: x) (upd H p (.lst vs))) := fun b o e => by
    have hb : b ∉ m ++ x := fun z => by unfold fz at e; rw [if_pos z] at e; cases e
    have e' : H b = some o := by unfold fz at e; rw [if_neg hb] at e; exact e
    have hbp : b ≠ p := ne_of_none e' h
    refine fz_of (fun z => ?_) (by rw [upd_ne hbp]; exact e')
    rcases List.mem_append.mp z with z | z
    · exact hb (List.mem_append_left _ z)
    · rcases List.mem_cons.mp z with z | z
      · exact hbp z
      · exact hb (List.mem_append_right _ z)
  refine ⟨?_, s.len, fun i a c e1 e2 => ?_, fun a ha => ?_⟩
  · have nd := s.nd
    rw [List.nodup_append] at nd ⊢
    refine ⟨nd.1, List.nodup_cons.mpr ⟨o2, nd.2.1⟩, fun a ha b hb => ?_⟩
    rcases List.mem_cons.mp hb with rfl | hb
    · exact fun z => o1 (z ▸ ha)
    · exact nd.2.2 a ha b hb
  · have hm : a ∈ m := List.mem_of_getElem? e1
    have hne : a ≠ p := fun z => o1 (z ▸ hm)
    have hc := s.cell i a c e1 e2
    exact hc.move same (upd_ne hne)
  · rcases List.mem_cons.mp ha with rfl | ha
    · rw [upd_same]; simp
    · rw [upd_ne (fun (z : a = p) => o2 (z ▸ ha))]
      exact s.there a ha
theorem fz_hide {x m : List Addr} {H : Hp} {S : Stor} (s : SRel K fa x m H S) {p : Addr} {o : HO} (h : H p = none) : Same (fz (m ++ x) H) (fz (m ++ p :: x) (upd H p o)) := fun b u e => by
  have hb : b ∉ m ++ x := fun z => by unfold fz at e; rw [if_pos z] at e; cases e
  have e' : H b = some u := by unfold fz at e; rw [if_neg hb] at e; exact e
  have hbp : b ≠ p := ne_of_none e' h
  refine fz_of (fun z => ?_) (by rw [upd_ne hbp]; exact e')
  rcases List.mem_append.mp z with z | z
  · exact hb (List.mem_append_left _ z)
  · rcases List.mem_cons.mp z with z | z
    · exact hbp z
    · exact hb (List.mem_append_right _ z)
theorem fz_show {x m : List Addr} {H : Hp} {p : Addr} : Same (fz (m ++ p :: x) H) (fz (m ++ x) H) := fun b u e => by
  have hb : b ∉ m ++ p :: x := fun z => by unfold fz at e; rw [if_pos z] at e; cases e
  have e' : H b = some u := by unfold fz at e; rw [if_neg hb] at e; exact e
  exact fz_of (fun z => hb ((List.mem_append.mp z).elim (List.mem_append_left _) fun z => List.mem_append_right _ (List.mem_cons_of_mem _ z))) e'
theorem SRel.show' {x m : List Addr} {H : Hp} {S : Stor} {p : Addr} (s : SRel K fa (p :: x) m H S) : SRel K fa x m H S ∧ p ∉ m ∧ p ∉ x := by
  have nd := s.nd
  rw [List.nodup_append] at nd
  have h1 := List.nodup_cons.mp nd.2.1
  refine ⟨⟨?_, s.len, fun i a c e1 e2 => ?_, fun a ha => s.there a (List.mem_cons_of_mem _ ha)⟩, fun z => nd.2.2 p z p List.mem_cons_self rfl, h1.1⟩
  · rw [List.nodup_append]
    exact ⟨nd.1, h1.2, fun a ha b hb => nd.2.2 a ha b (List.mem_cons_of_mem _ hb)⟩
  · have hc := s.cell i a c e1 e2
    exact hc.move fz_show rfl
/-- what is private may be written by its owner -/
theorem SRel.own {x m : List Addr} {H : Hp} {S : Stor} {p : Addr} {o : HO} (s : SRel K fa (p :: x) m H S) : SRel K fa (p :: x) m (upd H p o) S ∧ Same (fz (m ++ p :: x) H) (fz (m ++ p :: x) (upd H p o)) := by
  have same : Same (fz (m ++ p :: x) H) (fz (m ++ p :: x) (upd H p o)) := fun b u e => by
    have hb : b ∉ m ++ p :: x := fun z => by unfold fz at e; rw [if_pos z] at e; cases e
    have e' : H b = some u := by unfold fz at e; rw [if_neg hb] at e; exact e
    exact fz_of hb (by rw [upd_ne (fun (z : b = p) => hb (by rw [z]; exact List.mem_append_right _ List.mem_cons_self))]; exact e')
  obtain ⟨_, o1, _⟩ := s.show'
  refine ⟨⟨s.nd, s.len, fun i a c e1 e2 => ?_, fun a ha => ?_⟩, same⟩
  · have hm : a ∈ m := List.mem_of_getElem? e1
    have hne : a ≠ p := fun z => o1 (z ▸ hm)
    have hc := s.cell i a c e1 e2
    exact hc.move same (upd_ne hne)
  · by_cases h : a = p
    · subst h; rw [upd_same]; simp
    · rw [upd_ne h]; exact s.there a ha
theorem ERel.same {F F' : Hp} {m : List Addr} {sg : L2.St} {rho : Rho} (e : Same F F') (h : ERel K fa F m sg rho) : ERel K fa F' m sg rho := ⟨h.len, fun i w q => by
  obtain ⟨v, a, b⟩ := h.get i w q
  refine ⟨v, a, ?_⟩
  cases w with
  | l => obtain ⟨f, c, q', F0, e1, h1, h2, h3⟩ := b; exact ⟨f, c, q', F0, e1, h1, h2, fun b o z => e _ _ (h3 b o z)⟩
  | d y => exact Rep.mono e y v b
  | r n => exact b⟩
theorem RelI.same {F F' : Hp} {m : List Addr} (e : Same F F') {J : It} {it : Wlk} (h : RelI K fa F m J it) : RelI K fa F' m J it := fun x2 m2 H2 S2 p e2 f c => h x2 m2 H2 S2 p (fun b o z => e2 _ _ (e _ _ z)) f c
end
end DL
namespace DL
open PySem PySem.Spec PyProof.Rows L2

section
variable {K : PySem.W.Frag} {fa : FA}
/-- a private list becomes a cell of the store -/
theorem SRel.give {x m : List Addr} {H : Hp} {S : Stor} {p : Addr} {vs : List V} {xs : List D} (s : SRel K fa (p :: x) m H S) (h : H p = some (.lst vs)) (r : RepL K fa (fz (m ++ p :: x) H) vs xs) : SRel K fa x (m ++ [p]) H (S ++ [.lst xs]) := by
  have e : m ++ [p] ++ x = m ++ p :: x := by simp
  refine ⟨by rw [e]; exact s.nd, by simp [s.len], fun i a c e1 e2 => ?_, fun a ha => s.there a (List.mem_cons_of_mem _ ha)⟩
  rw [e]
  by_cases hi : i < m.length
  · rw [List.getElem?_append_left hi] at e1
    rw [List.getElem?_append_left (by rw [← s.len]; exact hi)] at e2
    exact (s.cell i a c e1 e2).moveX (fun _ _ z => z) rfl ⟨[p], rfl⟩
  · rw [List.getElem?_append_right (by omega)] at e1
    rw [List.getElem?_append_right (by rw [← s.len]; omega), ← s.len] at e2
    have h0 : i - m.length = 0 := by
      have := (List.getElem?_eq_some_iff.mp e1).1
      simp at this
      omega
    rw [h0] at e1 e2
    simp at e1 e2
    subst e1 e2
    exact ⟨vs, h, r⟩
theorem lcEnd_cons (mu : Bool) (acc : List D) (y : D) (r : Res (List D)) : lcEnd mu acc (r.bind fun ys S3 => .ok (y :: ys) S3) = lcEnd mu (acc ++ [y]) r := by
  cases r with
  | ok ys S =>
    unfold lcEnd Res.bind Res.calm
    dsimp only
    rw [List.append_assoc]
    rfl
  | exc e S => rfl
  | bad => rfl
/-- the state of a comprehension at its i-th turn -/
structure LcAt (K : PySem.W.Frag) (fa : FA) (x m0 : List Addr) (H0 : Hp) (p : Addr) (J : It) (it : Wlk) (mu : Bool) (tg : Tgt) (ft : Den Bool) (fe : Den W) (sg0 : L2.St) (rho0 : Rho) (sg : L2.St) (Wx : WX) (Q : VK) (i mm : Nat) (H : Hp) : Prop where
  ex : ∃ (m : List Addr) (S : Stor) (vs : List V) (acc : List D), Step m0 H0 m H ∧ SRel K fa (p :: x) m H S ∧ H p = some (.lst vs) ∧ RepL K fa (fz (m ++ p :: x) H) vs acc ∧ mm = it.items.length - i ∧ i ≤ it.items.length ∧
    ERel K fa (fz (m ++ p :: x) H) m sg0 rho0 ∧ RelI K fa (fz (m ++ p :: x) H) m J it ∧ After K fa x m0 H0 sg Wx (relW K fa) Q (lcEnd mu acc (lcGo it tg ft fe rho0 (it.items.drop i) S))
end
section
variable {X : Cx} {fa : FA} {Wx : WX}
theorem T.lc {mu : Bool} {fi : Den Wlk} {tg : Tgt} {ft : Den Bool} {fe : Den W} {own ns : List Nat} (hns : ∀ n ∈ ns, n ∈ own) {sg : L2.St} {H : Hp} {Q : VK} (h : T X.K fa Wx (relW X.K fa) (dLc mu fi tg ft fe own) sg H Q) :
    tLc (TIt X.K fa Wx fi) (TGd X.K fa ns tg) (T X.K fa W0 relB ft) (T X.K fa W0 (relW X.K fa) fe) own sg H Q := by
  show T X.K fa Wx (fun F m J it => RelI X.K fa F m J it) fi sg H _
  refine T.one (r3 := relW X.K fa) (g := fun rho it S1 => lcEnd mu [] (lcGo it tg ft fe (wipeR rho own) it.items S1)) (fun _ _ _ q => q) (fun x m0 H0 S J it rho at_ ri q p hp => ?_) h
  refine ⟨fun i mm Hc => LcAt X.K fa x m0 H0 p J it mu tg ft fe (wipe sg own) (wipeR rho own) sg Wx Q i mm Hc, ⟨it.items.length, ⟨m0, S, [], [], Step.laid hp, at_.s.hide hp, upd_same, .nil, by simp, Nat.zero_le _, (at_.e.wipe own).same (fz_hide at_.s hp), ri.same (fz_hide at_.s hp), q⟩⟩, ?_⟩
  rintro i mm Hc ⟨m, S', vs, acc, st, sr, hv, ra, rfl, hi, er, ri', q'⟩
  by_cases hlt : i < it.items.length
  · right
    have hd : it.items.drop i = it.items[i] :: it.items.drop (i + 1) := (List.drop_eq_getElem_cons hlt)
    rw [hd] at q'
    unfold lcGo at q'
    by_cases hc : cellOk it S' = true
    · rw [if_pos hc] at q'
      obtain ⟨w1, _, w3⟩ := ri'.walk sr hc i
      refine ⟨w1 hlt, fun H' => ∃ m', m' < it.items.length - i ∧ LcAt X.K fa x m0 H0 p J it mu tg ft fe (wipe sg own) (wipeR rho own) sg Wx Q (i + 1) m' H', fun H' z => z, fun v H' hy => ?_⟩
      obtain ⟨d, ed, sy, ry, rd⟩ := w3 v H' hlt hy
      have ed' : it.items[i] = d := by
        rw [List.getElem?_eq_getElem hlt] at ed
        exact Option.some.inj ed
      rw [ed'] at q'
      cases et : tg (.d d) (wipeR rho own) S' with
      | none => rw [et] at q'; exact (show False from q').elim
      | some rho1 =>
        rw [et] at q'
        dsimp only at q'
        have erH := er.step sy
        refine ⟨p :: x, m, wipeR rho own, S', .d d, rho1, ⟨ry, erH⟩, rd, et, fun sg1 o1 e1 => ?_⟩
        refine ⟨by rw [wipe_only o1 hns, wipe_wipe], p :: x, m, rho1, S', ⟨ry, e1⟩, ?_⟩
        cases ef : ft rho1 S' with
        | bad => rw [ef] at q'; exact (show False from q').elim
        | exc e S1 => rw [ef] at q'; exact (show False from q').elim
        | ok b S1 =>
          rw [ef] at q'
          have q1 : After X.K fa x m0 H0 sg Wx (relW X.K fa) Q (lcEnd mu acc (if b = true then (fe rho1 S1).calm.bind fun w S2 => match w with
            | .d y => (lcGo it tg ft fe (wipeR rho own) (it.items.drop (i + 1)) S2).bind fun ys S3 => .ok (y :: ys) S3
            | .r _ => .bad
            | .l => .bad
            else lcGo it tg ft fe (wipeR rho own) (it.items.drop (i + 1)) S1)) := q'
          intro b' m2 H2 s2 r2 eb
          have eb' : b' = b := eb
          subst eb'
          have np : p ∉ m := sr.show'.2.1
          have keepP : ∀ {ma mb : List Addr} {Ha Hb : Hp} {u : List V}, Step ma Ha mb Hb → p ∉ ma → Ha p = some (.lst u) → Hb p = some (.lst u) := fun st hn e => st.keep p _ e hn
          have hp1 : H' p = some (.lst vs) := keepP sy np hv
          have hp2 : H2 p = some (.lst vs) := keepP s2 np hp1
          have np2 : p ∉ m2 := r2.show'.2.1
          have st2 : Step m0 H0 m2 H2 := (st.trans sy).trans s2
          have ra2 : RepL X.K fa (fz (m2 ++ p :: x) H2) vs acc := RepL.mono (sy.trans s2).fz _ _ ra
          have er2 := erH.step s2
          have ri2 : RelI X.K fa (fz (m2 ++ p :: x) H2) m2 J it := RelI.step (sy.trans s2) ri'
          cases b' with
          | false =>
            rw [if_neg Bool.false_ne_true] at q1 ⊢
            exact ⟨it.items.length - (i + 1), by omega, ⟨m2, S1, vs, acc, st2, r2, hp2, ra2, rfl, hlt, er2, ri2, q1⟩⟩
          | true =>
            rw [if_pos rfl] at q1 ⊢
            refine ⟨p :: x, m2, rho1, S1, ⟨r2, e1.step s2⟩, ?_⟩
            cases eg : fe rho1 S1 with
            | bad => rw [eg] at q1; exact (show False from q1).elim
            | exc e S2 => rw [eg] at q1; exact (show False from q1).elim
            | ok w S2 =>
              rw [eg] at q1
              intro u m3 H3 s3 r3 ru
              cases w with
              | r n => exact (show False from q1).elim
              | l => exact (show False from q1).elim
              | d y =>
                have q2 : After X.K fa x m0 H0 sg Wx (relW X.K fa) Q (lcEnd mu acc ((lcGo it tg ft fe (wipeR rho own) (it.items.drop (i + 1)) S2).bind fun ys S3 => .ok (y :: ys) S3)) := q1
                rw [lcEnd_cons] at q2
                have hp3 : H3 p = some (.lst vs) := keepP s3 np2 hp2
                have ra3 : RepL X.K fa (fz (m3 ++ p :: x) H3) vs acc := RepL.mono s3.fz _ _ ra2
                obtain ⟨so, sm⟩ := r3.own (o := .lst (vs ++ [u]))
                have hlen : (acc ++ [y]).length ≤ 16777216 := by
                  revert q2
                  cases lcGo it tg ft fe (wipeR rho own) (it.items.drop (i + 1)) S2 with
                  | bad => exact fun z => (show False from z).elim
                  | exc e S3 => exact fun z => (show False from z).elim
                  | ok ys S3 =>
                    intro z
                    have z' : After X.K fa x m0 H0 sg Wx (relW X.K fa) Q (if (acc ++ [y] ++ ys).length ≤ 16777216 then fin mu (acc ++ [y] ++ ys) S3 else .bad) := z
                    by_cases hz : (acc ++ [y] ++ ys).length ≤ 16777216
                    · simp only [List.length_append] at hz ⊢
                      omega
                    · rw [if_neg hz] at z'
                      exact (show False from z').elim
                have np3 : p ∉ m3 := r3.show'.2.1
                refine ⟨vs, hp3, ?_, it.items.length - (i + 1), by omega, ⟨m3, S2, vs ++ [u], acc ++ [y], ?_, so, upd_same, RepL.mono sm _ _ (ra3.app (.cons ru .nil)), rfl, hlt, (er2.step s3).same sm, (RelI.step s3 ri2).same sm, q2⟩⟩
                · rw [ra3.length, ← sl16]
                  rw [List.length_append, List.length_singleton] at hlen
                  omega
                · have st3 := st2.trans s3
                  refine ⟨st3.pre, st3.new, fun a o e hn => ?_⟩
                  by_cases hap : a = p
                  · subst hap
                    rw [hp] at e
                    cases e
                  · rw [upd_ne hap]
                    exact st3.keep a o e hn
    · rw [if_neg hc] at q'
      exact (show False from q').elim
  · left
    have hi' : i = it.items.length := by omega
    rw [hi', List.drop_length] at q'
    unfold lcGo at q'
    by_cases hc : cellOk it S' = true
    · rw [if_pos hc] at q'
      obtain ⟨_, w2, _⟩ := ri'.walk sr hc i
      refine ⟨w2 (by omega), ?_⟩
      have q1 : After X.K fa x m0 H0 sg Wx (relW X.K fa) Q (if (acc ++ []).length ≤ 16777216 then fin mu (acc ++ []) S' else .bad) := q'
      rw [List.append_nil] at q1
      by_cases hz : acc.length ≤ 16777216
      · rw [if_pos hz] at q1
        obtain ⟨s1, n1, n2⟩ := sr.show'
        unfold fin at q1
        cases mu with
        | true =>
          rw [if_pos rfl] at q1
          refine q1 (.ref p) (m ++ [p]) Hc ⟨?_, fun a ha hn => ?_, st.keep⟩ (sr.give hv ra) ⟨p, by rw [← sr.len]; simp, rfl⟩
          · obtain ⟨t, e⟩ := st.pre
            exact ⟨t ++ [p], by rw [e, List.append_assoc]⟩
          · rcases List.mem_append.mp ha with ha | ha
            · exact st.new a ha hn
            · rw [List.mem_singleton.mp ha]; exact hp
        | false =>
          rw [if_neg Bool.false_ne_true] at q1
          exact q1 (.ref p) m Hc st s1 (.lst (.inl (.inl (fz_of (fun z => (List.mem_append.mp z).elim n1 n2) hv))) (RepL.mono fz_show _ _ ra))
      · rw [if_neg hz] at q1
        exact (show False from q1).elim
    · rw [if_neg hc] at q'
      exact (show False from q').elim

abbrev DTs (X : Cx) (fa : FA) (Wx : WX) (ifs : List Expr) (f : Den Bool) : Prop := PTs X ifs (T X.K fa Wx relB f)
theorem PTs.imp {ifs : List Expr} {t t' : TT} (h : PTs X ifs t) (k : ∀ sg H Q, t' sg H Q → t sg H Q) : PTs X ifs t' := ⟨fun pins s sg H Q I q => h.run pins s sg H Q I (k sg H Q q)⟩
def dYes : Den Bool := fun _ S => .ok true S
theorem dts_nil : DTs X fa Wx [] dYes := PTs.imp pts_nil fun sg H Q ⟨x, m, rho, S, a, q⟩ => (show After _ _ _ _ _ _ _ _ _ (Res.ok true S) from q).ok a.s rfl
theorem dts_one {c : Expr} {f : Den Bool} (h : DT X fa Wx c f) : DTs X fa Wx [c] f := pts_one h

variable {elt tg iter : Expr} {ifs : List Expr} {scope : Scope} {own : List (Str × Nat)} {pos : Pos} {fi : Den Wlk} {gt : Tgt} {ft : Den Bool} {fe : Den W} {ns : List Nat}
theorem de_lc (mu : Bool) (hc : X.calm = true) (hN : X.N.Nodup) (hi : DI X fa Wx tg iter fi) (ok : BlkOk X.N X.env.scope scope own) (hns : ∀ n ∈ ns, n ∈ own.map (·.2))
    (hg : ∀ (s : Shared) (H : Hp) (C : Addr) (cl : List (Str × Addr)) (fp : List Addr), DG (X.blk s H scope (compEnvC scope cl C X.env) fp) fa tg ns gt) (ht : ∀ (s : Shared) (H : Hp) (C : Addr) (cl : List (Str × Addr)) (fp : List Addr), DTs (X.blk s H scope (compEnvC scope cl C X.env) fp) fa W0 ifs ft)
    (he : ∀ (s : Shared) (H : Hp) (C : Addr) (cl : List (Str × Addr)) (fp : List Addr), DE (X.blk s H scope (compEnvC scope cl C X.env) fp) fa W0 elt fe) (hs : ∀ x, foldedSetIterable iter X.env x = pure x := by intro _; rfl) :
    DE X fa Wx (.ListComp elt [⟨tg, iter, ifs, 0⟩] scope pos) (dLc mu fi gt ft fe (own.map (·.2))) :=
  PE.imp (pe_lc (g := TGd X.K fa ns gt) (tt := T X.K fa W0 relB ft) (te := T X.K fa W0 (relW X.K fa) fe) hc hN hi ok hg ht he hs) fun _ _ _ h => T.lc hns h
end
end DL
namespace DL
open PySem PySem.Spec PyProof.Rows L2

/-! ### statements -/
inductive RS where
  | nx (rho : Rho) (S : Stor) | rt (w : W) (S : Stor) | bk (rho : Rho) (S : Stor) | ct (rho : Rho) (S : Stor) | exc (e : Ex) (rho : Rho) (S : Stor) | bad
abbrev SD := Rho → Stor → RS
def SAfter (K : PySem.W.Frag) (fa : FA) (x m : List Addr) (H : Hp) (Wx : WX) (E : Ends) : RS → Prop
  | .nx rho S => ∀ sg' m' H', Step m H m' H' → At K fa x m' sg' H' rho S → E.nx sg' H'
  | .rt w S => ∀ v m' H', Step m H m' H' → SRel K fa x m' H' S → RepW K fa (fz (m' ++ x) H') m' v w → E.rt v H'
  | .bk rho S => ∀ sg' m' H', Step m H m' H' → At K fa x m' sg' H' rho S → E.bk sg' H'
  | .ct rho S => ∀ sg' m' H', Step m H m' H' → At K fa x m' sg' H' rho S → E.ct sg' H'
  | .exc e rho S => ∀ c d sg' m' H', Step m H m' H' → At K fa x m' sg' H' rho S → ExRel K fa (fz (m' ++ x) H') H' e c d → Wx c d sg' H'
  | .bad => False
def TSd (K : PySem.W.Frag) (fa : FA) (Wx : WX) (f : SD) : TS := fun E sg H => ∃ x m rho S, At K fa x m sg H rho S ∧ SAfter K fa x m H Wx E (f rho S)
abbrev DS (X : Cx) (fa : FA) (Wx : WX) (st : Stmt) (f : SD) : Prop := PS X st (TSd X.K fa Wx f)
abbrev DSs (X : Cx) (fa : FA) (Wx : WX) (sts : List Stmt) (f : SD) : Prop := PSs X sts (TSd X.K fa Wx f)
def Res.lift {α : Type} (r : Res α) (rho : Rho) (k : α → Stor → RS) : RS := match r with
  | .ok a S => k a S
  | .exc e S => .exc e rho S
  | .bad => .bad
section
variable {K : PySem.W.Frag} {fa : FA} {x m : List Addr} {H : Hp} {S : Stor} {Wx : WX} {E : Ends}
theorem SAfter.step {m' : List Addr} {H' : Hp} (s : Step m H m' H') {r : RS} (h : SAfter K fa x m H Wx E r) : SAfter K fa x m' H' Wx E r := by
  cases r with
  | nx rho S => exact fun sg m2 H2 t a => h sg m2 H2 (s.trans t) a
  | rt w S => exact fun v m2 H2 t a r => h v m2 H2 (s.trans t) a r
  | bk rho S => exact fun sg m2 H2 t a => h sg m2 H2 (s.trans t) a
  | ct rho S => exact fun sg m2 H2 t a => h sg m2 H2 (s.trans t) a
  | exc e rho S => exact fun c d sg m2 H2 t a r => h c d sg m2 H2 (s.trans t) a r
  | bad => exact h
theorem SAfter.then {α β : Type} {rel : Rl β α} {sg : L2.St} {rho : Rho} {S0 : Stor} (a : At K fa x m sg H rho S0) {r : Res α} {k : α → Stor → RS} (h : SAfter K fa x m H Wx E (r.lift rho k)) :
    After K fa x m H sg Wx rel (fun v H1 => ∃ m1 w S1, Step m H m1 H1 ∧ SRel K fa x m1 H1 S1 ∧ rel (fz (m1 ++ x) H1) m1 v w ∧ SAfter K fa x m1 H1 Wx E (k w S1)) r := by
  cases r with
  | ok w S1 => exact fun v m1 H1 s1 t1 r1 => ⟨m1, w, S1, s1, t1, r1, SAfter.step s1 (show SAfter K fa x m H Wx E (k w S1) from h)⟩
  | exc e S1 => exact fun c d m1 H1 s1 t1 r1 => (show SAfter K fa x m H Wx E (.exc e rho S1) from h) c d sg m1 H1 s1 (a.step s1 t1) r1
  | bad => exact h
theorem stOne {α β : Type} {rel : Rl β α} {ta : L2.St → Hp → (β → Hp → Prop) → Prop} {f : Den α} {g : Rho → α → Stor → RS} {sg : L2.St} {H : Hp} {R : β → Hp → Prop} (ha : ∀ sg H Q, T K fa Wx rel f sg H Q → ta sg H Q)
    (k : ∀ x m H S v a rho, At K fa x m sg H rho S → rel (fz (m ++ x) H) m v a → SAfter K fa x m H Wx E (g rho a S) → R v H)
    (h : TSd K fa Wx (fun rho S => (f rho S).lift rho (g rho)) E sg H) : ta sg H R := by
  obtain ⟨x, m, rho, S, at_, q⟩ := h
  refine ha sg H _ ⟨x, m, rho, S, at_, ?_⟩
  have q1 := SAfter.then (rel := rel) at_ q
  revert q1
  cases f rho S with
  | bad => exact id
  | exc e S1 => exact id
  | ok w1 S1 =>
    intro q1 v m1 H1 s1 t1 rw1
    obtain ⟨m1', w1', S1', t1, u1, rw1', q2⟩ := q1 v m1 H1 s1 t1 rw1
    exact k x m1' H1 S1' v w1' rho (at_.step t1 u1) rw1' q2
end
theorem stAt {α β : Type} {K : PySem.W.Frag} {fa : FA} {x m : List Addr} {H : Hp} {S : Stor} {Wx : WX} {E : Ends} {rel : Rl β α} {f : Den α} {k : α → Stor → RS} {sg : L2.St} {rho : Rho} {R : β → Hp → Prop} (at_ : At K fa x m sg H rho S)
    (q : SAfter K fa x m H Wx E ((f rho S).lift rho k)) (hk : ∀ m1 H1 S1 v w, Step m H m1 H1 → At K fa x m1 sg H1 rho S1 → rel (fz (m1 ++ x) H1) m1 v w → SAfter K fa x m1 H1 Wx E (k w S1) → R v H1) : T K fa Wx rel f sg H R := by
  refine ⟨x, m, rho, S, at_, ?_⟩
  have q1 := SAfter.then (rel := rel) at_ q
  revert q1
  cases f rho S with
  | bad => exact id
  | exc e S1 => exact id
  | ok w1 S1 =>
    intro q1 v m1 H1 s1 t1 rw1
    obtain ⟨m1', w1', S1', t1, u1, rw1', q2⟩ := q1 v m1 H1 s1 t1 rw1
    exact hk m1' H1 S1' v w1' t1 (at_.step t1 u1) rw1' q2
def sNil : SD := fun rho S => .nx rho S
def sSeq (f g : SD) : SD := fun rho S => match f rho S with
  | .nx rho' S' => g rho' S'
  | o => o
section
variable {X : Cx} {fa : FA} {Wx : WX} {st : Stmt} {sts : List Stmt} {f g : SD} {e c : Expr} {fe : Den W} {pos : Pos}
theorem dss_nil : DSs X fa Wx [] sNil := PSs.imp pss_nil fun E sg H ⟨x, m, rho, S, a, q⟩ => q sg m H (Step.refl _ _) a
theorem dss_cons (h1 : DS X fa Wx st f) (h2 : DSs X fa Wx sts g) : DSs X fa Wx (st :: sts) (sSeq f g) := by
  refine PSs.imp (pss_cons h1 h2) fun E sg H ⟨x, m, rho, S, a, q⟩ => ⟨x, m, rho, S, a, ?_⟩
  unfold sSeq at q
  cases ef : f rho S with
  | nx rho' S' =>
    rw [ef] at q
    exact fun sg' m' H' s t => ⟨x, m', rho', S', t, SAfter.step s q⟩
  | rt w S' => rw [ef] at q; exact q
  | bk r S' => rw [ef] at q; exact q
  | ct r S' => rw [ef] at q; exact q
  | exc e r S' => rw [ef] at q; exact q
  | bad => rw [ef] at q; exact q
theorem dss_one (h1 : DS X fa Wx st f) : DSs X fa Wx [st] f := pss_one h1
def sExpr (f : Den W) : SD := fun rho S => (f rho S).lift rho fun _ S1 => .nx rho S1
theorem ds_expr (he : DE X fa Wx e fe) (hs : swapsWith e none pos.line X.env = pure false := by rfl) : DS X fa Wx (.Expr e pos) (sExpr fe) := by
  refine PS.imp (ps_expr he hs) fun E sg H h => ?_
  show T X.K fa Wx (relW X.K fa) fe sg H _
  exact stOne (g := fun rho _ S1 => .nx rho S1) (fun _ _ _ q => q) (fun x m H S v a rho at_ ra q => q sg m H (Step.refl _ _) at_) h
theorem ds_doc {s : Str} {j} {p p' : Pos} : DS X fa Wx (.Expr (.Constant (.str s) j p) p') sNil := PS.imp ps_doc fun E sg H ⟨x, m, rho, S, a, q⟩ => q sg m H (Step.refl _ _) a
theorem ds_pass : DS X fa Wx (.Pass pos) sNil := PS.imp ps_pass fun E sg H ⟨x, m, rho, S, a, q⟩ => q sg m H (Step.refl _ _) a
def sBreak : SD := fun rho S => .bk rho S
def sCont : SD := fun rho S => .ct rho S
theorem ds_break : DS X fa Wx (.Break pos) sBreak := PS.imp ps_break fun E sg H ⟨x, m, rho, S, a, q⟩ => q sg m H (Step.refl _ _) a
theorem ds_cont : DS X fa Wx (.Continue pos) sCont := PS.imp ps_continue fun E sg H ⟨x, m, rho, S, a, q⟩ => q sg m H (Step.refl _ _) a
def sRet (f : Den W) : SD := fun rho S => (f rho S).lift rho fun w S1 => .rt w S1
theorem ds_ret (he : DE X fa Wx e fe) : DS X fa Wx (.Return (some e) pos) (sRet fe) := by
  refine PS.imp (ps_ret he) fun E sg H h => ?_
  show T X.K fa Wx (relW X.K fa) fe sg H _
  exact stOne (g := fun _ w S1 => .rt w S1) (fun _ _ _ q => q) (fun x m H S v a rho at_ ra q => q v m H (Step.refl _ _) at_.s ra) h
def sRetN : SD := fun _ S => .rt (.d .non) S
theorem ds_retN : DS X fa Wx (.Return none pos) sRetN := PS.imp ps_retN fun E sg H ⟨x, m, rho, S, a, q⟩ => q .non m H (Step.refl _ _) a.s .non

/-! ### assignments -/
def sSet (i : Nat) (f : Den W) : SD := fun rho S => (f rho S).lift rho fun w S1 => .nx (rho.set i (some w)) S1
theorem set_at {K : PySem.W.Frag} {x m : List Addr} {sg : L2.St} {H : Hp} {rho : Rho} {S : Stor} {v : V} {w : W} (i : Nat) (a : At K fa x m sg H rho S) (r : RepW K fa (fz (m ++ x) H) m v w) : At K fa x m (sg.set i (some v)) H (rho.set i (some w)) S := ⟨a.s, a.e.set i r⟩
theorem ds_set {i : Nat} {y : Str} {p : Pos} (hN : X.N.Nodup) (hi : X.N[i]? = some y) (hx : Loc X.env.scope y) (he : DE X fa Wx e fe) (hs : swapsWith e (some (.Name y p)) pos.line X.env = pure false := by rfl)
    (hf : X.fn y = true ∨ X.env.scope.names.lookup y = some .local := by first | exact .inl rfl | exact .inr rfl | assumption) : DS X fa Wx (.Assign [.Name y p] e pos) (sSet i fe) := by
  refine PS.imp (ps_set hN hi hx he hs hf) fun E sg H h => ?_
  show T X.K fa Wx (relW X.K fa) fe sg H _
  exact stOne (g := fun rho w S1 => .nx (rho.set i (some w)) S1) (fun _ _ _ q => q) (fun x m H S v a rho at_ ra q => q _ m H (Step.refl _ _) (set_at i at_ ra)) h
theorem ds_setLc (mu : Bool) {i : Nat} {y : Str} {py : Pos} {elt tg iter : Expr} {ifs : List Expr} {scope : Scope} {own : List (Str × Nat)} {spos : Pos} {fi : Den Wlk} {gt : Tgt} {ft : Den Bool} {ns : List Nat} (hc : X.calm = true) (hN : X.N.Nodup) (hy : X.N[i]? = some y) (hyl : X.env.scope.names.lookup y = some .local)
    (hsw : swapsWith (.ListComp elt [⟨tg, iter, ifs, 0⟩] scope pos) (some (.Name y py)) spos.line X.env = pure true) (hi : DI X fa Wx tg iter fi) (ok : BlkOk X.N X.env.scope scope own) (hns : ∀ n ∈ ns, n ∈ own.map (·.2))
    (hg : ∀ (s : Shared) (H : Hp) (C : Addr) (cl : List (Str × Addr)) (fp : List Addr), DG (X.blk s H scope (compEnvC scope cl C X.env) fp) fa tg ns gt) (ht : ∀ (s : Shared) (H : Hp) (C : Addr) (cl : List (Str × Addr)) (fp : List Addr), DTs (X.blk s H scope (compEnvC scope cl C X.env) fp) fa W0 ifs ft)
    (he : ∀ (s : Shared) (H : Hp) (C : Addr) (cl : List (Str × Addr)) (fp : List Addr), DE (X.blk s H scope (compEnvC scope cl C X.env) fp) fa W0 elt fe) (hs : ∀ x, foldedSetIterable iter X.env x = pure x := by intro _; rfl) :
    DS X fa Wx (.Assign [.Name y py] (.ListComp elt [⟨tg, iter, ifs, 0⟩] scope pos) spos) (sSet i (dLc mu fi gt ft fe (own.map (·.2)))) := by
  refine PS.imp (ps_setLc (i := i) (g := TGd X.K fa ns gt) (tt := T X.K fa W0 relB ft) (te := T X.K fa W0 (relW X.K fa) fe) hc hN hy hyl hsw hi ok hg ht he hs) fun E sg H h => ?_
  show tLc (TIt X.K fa Wx fi) (TGd X.K fa ns gt) (T X.K fa W0 relB ft) (T X.K fa W0 (relW X.K fa) fe) (own.map (·.2)) sg H _
  exact stOne (ta := tLc (TIt X.K fa Wx fi) (TGd X.K fa ns gt) (T X.K fa W0 relB ft) (T X.K fa W0 (relW X.K fa) fe) (own.map (·.2))) (g := fun rho w S1 => .nx (rho.set i (some w)) S1) (fun _ _ _ q => T.lc hns q) (fun x m H S v a rho at_ ra q => q _ m H (Step.refl _ _) (set_at i at_ ra)) h
/-- target = e, any target -/
def sAsg (tg : Tgt) (f : Den W) : SD := fun rho S => (f rho S).lift rho fun w S1 => match tg w rho S1 with
  | some rho' => .nx rho' S1
  | none => .bad
theorem ds_asg {t : Expr} {ns : List Nat} {gt : Tgt} (he : DE X fa Wx e fe) (hg : DG X fa t ns gt) (hs : swapsWithSole [t] e pos.line X.env = pure false := by rfl) (hw : swappedStores [t] e X.env = pure none := by rfl)
    (h1 : (assignEach [t] X.env).map (·.2) = [assign t X.env] := by rfl) : DS X fa Wx (.Assign [t] e pos) (sAsg gt fe) := by
  refine PS.imp (ps_asg he hg hs hw h1) fun E sg H h => ?_
  show T X.K fa Wx (relW X.K fa) fe sg H _
  refine stOne (g := fun rho w S1 => match gt w rho S1 with
    | some rho' => .nx rho' S1
    | none => .bad) (fun _ _ _ q => q) (fun x m H S v a rho at_ ra q => ?_) h
  cases eg : gt a rho S with
  | none => rw [eg] at q; exact (show False from q).elim
  | some rho' =>
    rw [eg] at q
    exact ⟨x, m, rho, S, a, rho', at_, ra, eg, fun sg' _ e1 => q sg' m H (Step.refl _ _) ⟨at_.s, e1⟩⟩
/-- (a, b, ..) = (x, y, ..): the values, one by one; they may be cells -/
def sTups (n : Nat) (gs : List W → Rho → Stor → Option Rho) (fs : Den (List W)) : SD := fun rho S => (fs rho S).lift rho fun ws S1 => if ws.length = n ∧ n ≤ 16777216 then match gs ws rho S1 with
  | some rho' => .nx rho' S1
  | none => .bad else .bad
theorem ds_tups {ts es : List Expr} {k k2 : Nat} {p1 p2 : Pos} {ns : List Nat} {n : Nat} {gs : List W → Rho → Stor → Option Rho} {fs : Den (List W)} (hc : X.calm = true) (he : DA X fa Wx es fs) (hg : DGs X fa ts ns gs) (hs : swapsWithSole [.Tuple ts k p1] (.Tuple es k2 p2) pos.line X.env = pure false := by rfl)
    (hw : swappedStores [.Tuple ts k p1] (.Tuple es k2 p2) X.env = pure none := by rfl) (h1 : (assignEach [.Tuple ts k p1] X.env).map (·.2) = [assign (.Tuple ts k p1) X.env] := by rfl) (hn : (assignEach ts X.env).length = n := by rfl) (hst : (assignEach ts X.env).findIdx? (·.1) = none := by rfl) :
    DS X fa Wx (.Assign [.Tuple ts k p1] (.Tuple es k2 p2) pos) (sTups n gs fs) := by
  refine PS.imp (ps_asg (pe_tup he) (pg_tup hc hg hn hst) hs hw h1) fun E sg H h => ?_
  show T X.K fa Wx (fun F m vs ws => RepWs X.K fa F m vs ws) fs sg H _
  refine stOne (g := fun rho ws S1 => if ws.length = n ∧ n ≤ 16777216 then match gs ws rho S1 with
    | some rho' => .nx rho' S1
    | none => .bad else .bad) (fun _ _ _ q => q) (fun x m H S v a rho at_ ra q => ?_) h
  by_cases hl : a.length = n ∧ n ≤ 16777216
  · rw [if_pos hl] at q
    have hlv := RepWs.length ra
    cases eg : gs a rho S with
    | none => rw [eg] at q; exact (show False from q).elim
    | some rho' =>
      rw [eg] at q
      refine ⟨by rw [hlv, hl.1, ← sl16]; exact hl.2, fun p hp => ?_⟩
      have st := Step.laid (m := m) (o := .tup v) hp
      have sl := at_.s.laid (o := .tup v) hp
      refine ⟨p, v, rfl, .inl (.inl upd_same), by rw [hlv]; exact hl.1, x, m, rho, S, a, rho', at_.step st sl, RepWs.step st ra, eg, fun sg' _ e1 => q sg' m _ st ⟨sl, e1⟩⟩
  · rw [if_neg hl] at q
    exact (show False from q).elim
/-- a, b = x, y with two locals -/
def parK (i j : Nat) (rho : Rho) (ws : List W) (S1 : Stor) : RS := match ws with
  | [a, b] => .nx ((rho.set i (some a)).set j (some b)) S1
  | _ => .bad
def sPar (i j : Nat) (fs : Den (List W)) : SD := fun rho S => (fs rho S).lift rho (parK i j rho)
theorem ds_par {i j : Nat} {y z : Str} {a b : Expr} {fs : Den (List W)} {px py pt : Pos} {kt k2 pt2} (hc : X.calm = true) (hN : X.N.Nodup) (hi : X.N[i]? = some y) (hj : X.N[j]? = some z) (hij : i ≠ j)
    (hx : X.env.scope.names.lookup y = some .local) (hy : X.env.scope.names.lookup z = some .local) (ha : DA X fa Wx [a, b] fs)
    (hw : swappedStores [.Tuple [.Name y px, .Name z py] kt pt] (.Tuple [a, b] k2 pt2) X.env = pure (some [y, z]))
    (hs : swapsWithSole [.Tuple [.Name y px, .Name z py] kt pt] (.Tuple [a, b] k2 pt2) pos.line X.env = pure false := by rfl) :
    DS X fa Wx (.Assign [.Tuple [.Name y px, .Name z py] kt pt] (.Tuple [a, b] k2 pt2) pos) (sPar i j fs) := by
  refine PS.imp (ps_par hc hN hi hj hij hx hy ha hw hs) fun E sg H h => ?_
  show T X.K fa Wx (fun F m vs ws => RepWs X.K fa F m vs ws) fs sg H _
  refine stOne (g := parK i j) (fun _ _ _ q => q) (fun x m H S v a rho at_ ra q => ?_) h
  unfold parK at q
  split at q
  · obtain ⟨v', z', rfl, r1, r2⟩ := ws2 ra
    exact ⟨v', z', rfl, q _ m H (Step.refl _ _) (set_at j (set_at i at_ r1) r2)⟩
  · exact q.elim
/-- name op= e, ints -/
def augK (i : Nat) (k : Int → Int → Int) (a : Int) (rho : Rho) (w : W) (S1 : Stor) : RS := match valD S1 w with
  | some (.int b) => .nx (rho.set i (some (.d (.int (k a b))))) S1
  | _ => .bad
def sAug (i : Nat) (k : Int → Int → Int) (f : Den W) : SD := fun rho S => match rho[i]? with
  | some (some u) => match valD S u with
    | some (.int a) => (f rho S).lift rho (augK i k a rho)
    | _ => .bad
  | _ => .bad
theorem ds_aug {i : Nat} {y : Str} {op : Operator} {k : Int → Int → Int} {p : Pos} (hN : X.N.Nodup) (hi : X.N[i]? = some y) (hx : Loc X.env.scope y) (he : DE X fa Wx e fe) (ho : PIp X op (ipI k))
    (hf : X.fn y = true ∨ X.env.scope.names.lookup y = some .local := by first | exact .inl rfl | exact .inr rfl | assumption) : DS X fa Wx (.AugAssign (.Name y p) op e pos) (sAug i k fe) := by
  refine PS.imp (ps_aug hN hi hx he ho hf) fun E sg H ⟨x, m, rho, S, at_, q⟩ => ?_
  unfold sAug at q
  split at q
  · rename_i u eu
    obtain ⟨v, h1, h2⟩ := at_.e.get i u eu
    split at q
    · rename_i a ea
      refine ⟨v, h1, ?_⟩
      show T X.K fa Wx (relW X.K fa) fe sg H _
      refine stAt at_ q fun m1 H1 S1 v2 w2 s1 at1 r2 q2 => ?_
      unfold augK at q2
      split at q2
      · rename_i b eb
        exact ⟨a, b, rep_int at_.s h2 ea, rep_int at1.s r2 eb, q2 _ m1 H1 (Step.refl _ _) (set_at i at1 (show RepW X.K fa _ m1 (.int (k a b)) (.d (.int (k a b))) from .int _))⟩
      · exact q2.elim
    · exact q.elim
  · exact q.elim
end
end DL
namespace DL
open PySem PySem.Spec PyProof.Rows L2

/-! ### if, for, while -/
def sIf (c : Den Bool) (f g : SD) : SD := fun rho S => (c rho S).lift rho fun b S1 => if b = true then f rho S1 else g rho S1
def forGo (it : Wlk) (tg : Tgt) (body : SD) : List D → SD
  | [], rho, S => if cellOk it S = true then .nx rho S else .bad
  | d :: ds, rho, S => if cellOk it S = true then match tg (.d d) rho S with
      | none => .bad
      | some rho1 => match body rho1 S with
        | .nx r S' => forGo it tg body ds r S'
        | .ct r S' => forGo it tg body ds r S'
        | .bk r S' => .nx r S'
        | o => o
    else .bad
def sFor (fi : Den Wlk) (tg : Tgt) (body : SD) : SD := fun rho S => (fi rho S).lift rho fun it S1 => forGo it tg body it.items rho S1
def whGo (c : Den Bool) (body : SD) : Nat → SD
  | 0, _, _ => .bad
  | n + 1, rho, S => (c rho S).lift rho fun b S1 => if b = true then match body rho S1 with
      | .nx r S' => whGo c body n r S'
      | .ct r S' => whGo c body n r S'
      | .bk r S' => .nx r S'
      | o => o
    else .nx rho S1
def sWhile (n : Nat) (c : Den Bool) (body : SD) : SD := whGo c body n
section
variable {X : Cx} {fa : FA} {Wx : WX} {c tg iter : Expr} {as bs : List Stmt} {dc : Den Bool} {f g : SD} {fi : Den Wlk} {gt : Tgt} {ns : List Nat} {pos : Pos}
theorem ds_if (hc : DT X fa Wx c dc) (ha : DSs X fa Wx as f) (hb : DSs X fa Wx bs g) : DS X fa Wx (.If c as bs pos) (sIf dc f g) := by
  refine PS.imp (ps_if hc ha hb) fun E sg H h => ?_
  show T X.K fa Wx relB dc sg H _
  refine stOne (g := fun rho b S1 => if b = true then f rho S1 else g rho S1) (fun _ _ _ q => q) (fun x m H S v a rho at_ ra q => ?_) h
  have e : v = a := ra
  subst e
  cases v with
  | true =>
    rw [if_pos rfl] at q ⊢
    exact ⟨x, m, rho, S, at_, q⟩
  | false =>
    rw [if_neg Bool.false_ne_true] at q ⊢
    exact ⟨x, m, rho, S, at_, q⟩
/-- a loop's state -/
structure ForAt (K : PySem.W.Frag) (fa : FA) (Wx : WX) (E : Ends) (x : List Addr) (J : It) (it : Wlk) (tg : Tgt) (body : SD) (i mm : Nat) (sg : L2.St) (H : Hp) : Prop where
  ex : ∃ (m : List Addr) (rho : Rho) (S : Stor), At K fa x m sg H rho S ∧ RelI K fa (fz (m ++ x) H) m J it ∧ mm = it.items.length - i ∧ i ≤ it.items.length ∧ SAfter K fa x m H Wx E (forGo it tg body (it.items.drop i) rho S)
theorem ds_for (hp : PassesOwn (model X.prog X.w) X.A X.env X.xe) (hc : X.calm = true) (hi : DI X fa Wx tg iter fi) (hg : DG X fa tg ns gt) (hb : DSs X fa Wx as f) (hs : ∀ x, foldedSetIterable iter X.env x = pure x := by intro _; rfl) :
    DS X fa Wx (.For tg iter as [] pos) (sFor fi gt f) := by
  refine PS.imp (ps_for hp hc hi hg hb hs) fun E sg H h => ?_
  show T X.K fa Wx (fun F m J it => RelI X.K fa F m J it) fi sg H _
  refine stOne (g := fun rho it S1 => forGo it gt f it.items rho S1) (fun _ _ _ q => q) (fun x m H S J it rho at_ ri q => ?_) h
  refine ⟨fun i mm sg H => ForAt X.K fa Wx E x J it gt f i mm sg H, ⟨it.items.length, ⟨m, rho, S, at_, ri, by simp, Nat.zero_le _, q⟩⟩, ?_⟩
  rintro i mm sg1 H1 ⟨m1, rho1, S1, at1, ri1, rfl, hle, q1⟩
  by_cases hlt : i < it.items.length
  · right
    rw [List.drop_eq_getElem_cons hlt] at q1
    unfold forGo at q1
    by_cases hcl : cellOk it S1 = true
    · rw [if_pos hcl] at q1
      obtain ⟨w1, _, w3⟩ := ri1.walk at1.s hcl i
      refine ⟨w1 hlt, fun sg' H' => ∃ m', m' < it.items.length - i ∧ ForAt X.K fa Wx E x J it gt f (i + 1) m' sg' H', fun sg' H' z => z, fun v H' hy => ?_⟩
      obtain ⟨d, ed, sy, ry, rd⟩ := w3 v H' hlt hy
      have ed' : it.items[i] = d := by
        rw [List.getElem?_eq_getElem hlt] at ed
        exact Option.some.inj ed
      rw [ed'] at q1
      cases et : gt (.d d) rho1 S1 with
      | none => rw [et] at q1; exact (show False from q1).elim
      | some rho2 =>
        rw [et] at q1
        dsimp only at q1
        refine ⟨x, m1, rho1, S1, .d d, rho2, at1.step sy ry, rd, et, fun sg2 o2 e2 => ?_⟩
        refine ⟨x, m1, rho2, S1, ⟨ry, e2⟩, ?_⟩
        have q2 := SAfter.step sy q1
        have ri2 := RelI.step sy ri1
        cases ef : f rho2 S1 with
        | bad => rw [ef] at q2; exact q2
        | nx r S' =>
          rw [ef] at q2
          exact fun sg3 m3 H3 s3 a3 => ⟨it.items.length - (i + 1), by omega, ⟨m3, r, S', a3, RelI.step s3 ri2, rfl, hlt, SAfter.step s3 q2⟩⟩
        | ct r S' =>
          rw [ef] at q2
          exact fun sg3 m3 H3 s3 a3 => ⟨it.items.length - (i + 1), by omega, ⟨m3, r, S', a3, RelI.step s3 ri2, rfl, hlt, SAfter.step s3 q2⟩⟩
        | bk r S' => rw [ef] at q2; exact q2
        | rt w S' => rw [ef] at q2; exact q2
        | exc e r S' => rw [ef] at q2; exact q2
    · rw [if_neg hcl] at q1
      exact (show False from q1).elim
  · left
    have hi' : i = it.items.length := by omega
    rw [hi', List.drop_length] at q1
    unfold forGo at q1
    by_cases hcl : cellOk it S1 = true
    · rw [if_pos hcl] at q1
      obtain ⟨_, w2, _⟩ := ri1.walk at1.s hcl i
      exact ⟨w2 (by omega), q1 sg1 m1 H1 (Step.refl _ _) at1⟩
    · rw [if_neg hcl] at q1
      exact (show False from q1).elim
theorem ds_while (n : Nat) (hp : PassesOwn (model X.prog X.w) X.A X.env X.xe) (hc : DT X fa Wx c dc) (hb : DSs X fa Wx as f) : DS X fa Wx (.While c as [] pos) (sWhile n dc f) := by
  refine PS.imp (ps_while hp hc hb) fun E sg H ⟨x, m, rho, S, at_, q⟩ => ?_
  refine ⟨fun k sg H => ∃ x m rho S, At X.K fa x m sg H rho S ∧ SAfter X.K fa x m H Wx E (whGo dc f k rho S), ⟨n, x, m, rho, S, at_, q⟩, ?_⟩
  rintro k sg1 H1 ⟨x1, m1, rho1, S1, at1, q1⟩
  cases k with
  | zero => exact (show False from q1).elim
  | succ k =>
    unfold whGo at q1
    show T X.K fa Wx relB dc sg1 H1 _
    refine stAt at1 q1 fun m2 H2 S2 v w s2 at2 r2 q2 => ?_
    have e : v = w := r2
    subst e
    cases v with
    | true =>
      rw [if_pos rfl] at q2 ⊢
      refine ⟨fun sg' H' => ∃ k', k' < k + 1 ∧ ∃ x m rho S, At X.K fa x m sg' H' rho S ∧ SAfter X.K fa x m H' Wx E (whGo dc f k' rho S), fun _ _ z => z, x1, m2, rho1, S2, at2, ?_⟩
      cases ef : f rho1 S2 with
      | bad => rw [ef] at q2; exact q2
      | nx r S' => rw [ef] at q2; exact fun sg3 m3 H3 s3 a3 => ⟨k, Nat.lt_succ_self k, x1, m3, r, S', a3, SAfter.step s3 q2⟩
      | ct r S' => rw [ef] at q2; exact fun sg3 m3 H3 s3 a3 => ⟨k, Nat.lt_succ_self k, x1, m3, r, S', a3, SAfter.step s3 q2⟩
      | bk r S' => rw [ef] at q2; exact q2
      | rt w S' => rw [ef] at q2; exact q2
      | exc e r S' => rw [ef] at q2; exact q2
    | false =>
      rw [if_neg Bool.false_ne_true] at q2 ⊢
      exact q2 sg1 m2 H2 (Step.refl _ _) at2
end

/-! ### a cell of the store written -/
section
variable {K : PySem.W.Frag} {fa : FA} {x m : List Addr} {H : Hp} {S : Stor}
theorem fz_upd {a : Addr} {o : HO} (h : a ∈ m) : fz (m ++ x) (upd H a o) = fz (m ++ x) H := by
  funext b
  unfold fz
  by_cases hb : b ∈ m ++ x
  · rw [if_pos hb, if_pos hb]
  · rw [if_neg hb, if_neg hb, upd_ne (fun (z : b = a) => hb (by rw [z]; exact List.mem_append_left _ h))]
theorem Step.wrote {a : Addr} {o : HO} (h : a ∈ m) : Step m H m (upd H a o) := ⟨⟨[], by simp⟩, fun _ z n => absurd z n, fun b u e hn => by rw [upd_ne (fun (z : b = a) => hn (by rw [z]; exact h))]; exact e⟩
theorem SRel.wrote (s : SRel K fa x m H S) {n : Nat} {a : Addr} {vs : List V} {xs : List D} (ha : m[n]? = some a) (r : RepL K fa (fz (m ++ x) H) vs xs) : SRel K fa x m (upd H a (.lst vs)) (S.set n (.lst xs)) := by
  have hm : a ∈ m := List.mem_of_getElem? ha
  have ndm : m.Nodup := (List.nodup_append.mp s.nd).1
  refine ⟨s.nd, by simp [s.len], fun i b c e1 e2 => ?_, fun b hb => ?_⟩
  · rw [fz_upd hm]
    by_cases hi : n = i
    · subst hi
      rw [ha] at e1
      cases e1
      have hn : n < S.length := by rw [← s.len]; exact (List.getElem?_eq_some_iff.mp ha).1
      rw [List.getElem?_set_self hn] at e2
      cases e2
      exact ⟨vs, upd_same, r⟩
    · rw [List.getElem?_set_ne hi] at e2
      have hne : b ≠ a := fun z => by
        subst z
        obtain ⟨h1, g1⟩ := List.getElem?_eq_some_iff.mp ha
        obtain ⟨h2, g2⟩ := List.getElem?_eq_some_iff.mp e1
        exact hi ((List.getElem_inj ndm).mp (g1.trans g2.symm))
      have hc := s.cell i b c e1 e2
      exact hc.move (fun _ _ q => q) (upd_ne hne)
  · by_cases hne : b = a
    · subst hne; rw [upd_same]; simp
    · rw [upd_ne hne]; exact s.there b hb
end

/-! ### methods of lists -/
def tyIs (T : String) (S : Stor) (w : W) : Bool := match valD S w with
  | some (.lst _) => T == "list"
  | some (.str _) => T == "str"
  | _ => false
def MethD (X : Cx) (fa : FA) (r : V → List V → Hp → VK → Prop) (g : W → List W → Stor → Res W) : Prop :=
  ∀ (x m : List Addr) (H : Hp) (S : Stor) (sg : L2.St) (Wx : WX) (v : V) (w : W) (vs : List V) (ws : List W) (Q : VK), SRel X.K fa x m H S → RepW X.K fa (fz (m ++ x) H) m v w → RepWs X.K fa (fz (m ++ x) H) m vs ws → After X.K fa x m H sg Wx (relW X.K fa) Q (g w ws S) → r v vs H Q
def dMeth (T : String) (g : W → List W → Stor → Res W) (f : Den W) (fs : Den (List W)) : Den W := fun rho S => (f rho S).bind fun w S1 => if tyIs T S1 w = true then (fs rho S1).bind fun ws S2 => g w ws S2 else .bad
section
variable {X : Cx} {fa : FA} {Wx : WX} {o e : Expr} {es : List Expr} {f fi fe : Den W} {fs : Den (List W)} {name : Str} {apos cpos pos : Pos} {T0 id : String} {r : V → List V → Hp → VK → Prop} {g : W → List W → Stor → Res W}
theorem tyIs_rep {x m : List Addr} {H : Hp} {S : Stor} (s : SRel X.K fa x m H S) {v : V} {w : W} (rv : RepW X.K fa (fz (m ++ x) H) m v w) (h : tyIs T0 S w = true) : tyV X.K T0 v H := by
  unfold tyIs at h
  split at h
  · rename_i xs ew
    obtain ⟨p, vs, rfl, hp, _⟩ := rep_lst s rv ew
    exact .inl ⟨by simpa using h, vs, hp⟩
  · rename_i z ew
    rw [rep_str s rv ew]
    exact (show T0 = "str" from by simpa using h)
  · cases h
theorem de_meth (pa : PlainAttrs T0) (slot : Slot T0 name id) (hty : typeOf (.builtin id) = pure (.type "method_descriptor")) (hm : MtR X id r) (hk : MethD X fa r g) (ho : DE X fa Wx o f) (ha : DA X fa Wx (e :: es) fs)
    (hbase : attributeBase o name X.env (eval o X.env) = eval o X.env := by rfl)
    (hfew : ((backTo cpos (starEach (e :: es) X.env)).all (fun x => !x.1) && (backToKw cpos (keywordEach [] X.env)).all (fun x => x.1.isSome)
      && decide ((e :: es).length + ([] : List Keyword).length + (if ([] : List Keyword).isEmpty then 0 else 1) < 30)) = true := by rfl)
    (hline : (apos.endLine == cpos.line) = true := by rfl) (hs : starEach (e :: es) X.env = (false, eval e X.env) :: starEach es X.env := by rfl) (hplain : (backTo cpos (starEach es X.env)).any (·.1) = false := by rfl) :
    DE X fa Wx (.Call (.Attribute o name apos) (e :: es) [] cpos) (dMeth T0 g f fs) := by
  refine PE.imp (pe_bm pa slot hty hm ho ha hbase hfew hline hs hplain) fun sg H Q h => ?_
  show T X.K fa Wx (relW X.K fa) f sg H _
  refine T.one (r3 := relW X.K fa) (g := fun rho w S1 => if tyIs T0 S1 w = true then (fs rho S1).bind fun ws S2 => g w ws S2 else .bad) (fun _ _ _ q => q) (fun x m H1 S v a rho at_ ra q => ?_) h
  by_cases ht : tyIs T0 S a = true
  · rw [if_pos ht] at q
    refine ⟨tyIs_rep at_.s ra ht, ?_⟩
    show T X.K fa Wx (fun F m vs ws => RepWs X.K fa F m vs ws) fs sg H1 _
    refine ⟨x, m, rho, S, at_, ?_⟩
    have q1 := After.then (rel := fun F m vs ws => RepWs X.K fa F m vs ws) q
    revert q1
    cases fs rho S with
    | bad => exact fun z => z
    | exc e S1 => exact fun z => z
    | ok ws S1 =>
      intro q1 us m2 H2 s2 t2 r2
      obtain ⟨m2', w2', S2', t2, u2, rw2', q2⟩ := q1 us m2 H2 s2 t2 r2
      exact hk x m2' H2 S2' sg Wx v a us w2' Q u2 (ra.step t2) rw2' q2
  · rw [if_neg ht] at q
    exact (show False from q).elim
theorem de_meth0 (pa : PlainAttrs T0) (slot : Slot T0 name id) (hty : typeOf (.builtin id) = pure (.type "method_descriptor")) (hm : MtR X id r) (hk : MethD X fa r g) (ho : DE X fa Wx o f)
    (hbase : attributeBase o name X.env (eval o X.env) = eval o X.env := by rfl) (hline : (apos.endLine == cpos.line) = true := by rfl) : DE X fa Wx (.Call (.Attribute o name apos) [] [] cpos) (dMeth T0 g f dNil) := by
  refine PE.imp (pe_bm0 pa slot hty hm ho hbase hline) fun sg H Q h => ?_
  show T X.K fa Wx (relW X.K fa) f sg H _
  refine T.one (r3 := relW X.K fa) (g := fun rho w S1 => if tyIs T0 S1 w = true then (dNil rho S1).bind fun ws S2 => g w ws S2 else .bad) (fun _ _ _ q => q) (fun x m H1 S v a rho at_ ra q => ?_) h
  by_cases ht : tyIs T0 S a = true
  · rw [if_pos ht] at q
    exact ⟨tyIs_rep at_.s ra ht, hk x m H1 S sg Wx v a [] [] Q at_.s ra .nil q⟩
  · rw [if_neg ht] at q
    exact (show False from q).elim
def gAppend (w : W) (ws : List W) (S : Stor) : Res W := match w, ws with
  | .r n, [.d y] => match S[n]? with
    | some (.lst xs) => if xs.length < 16777216 then .ok (.d .non) (S.set n (.lst (xs ++ [y]))) else .bad
    | _ => .bad
  | _, _ => .bad
theorem appendD : MethD X fa rAppend gAppend := by
  intro x m H S sg Wx v w vs ws Q s rv rs h
  unfold gAppend at h
  split at h
  · rename_i n y
    obtain ⟨a, ha, rfl⟩ := rv
    obtain ⟨z, rfl, rz⟩ := ws1 rs
    split at h
    · rename_i xs ec
      obtain ⟨us, h1, h2⟩ := s.cell n a _ ha ec
      split at h
      · rename_i hz
        exact ⟨a, us, z, rfl, rfl, h1, by rw [h2.length, ← sl16]; exact hz, h .non m _ (Step.wrote (List.mem_of_getElem? ha)) (s.wrote ha (h2.app (.cons rz .nil))) .non⟩
      · exact h.elim
    · exact h.elim
  · exact h.elim
theorem RepL.erase {K : PySem.W.Frag} {F : Hp} : ∀ {vs : List V} {xs : List D} (i : Nat), RepL K fa F vs xs → RepL K fa F (vs.eraseIdx i) (xs.eraseIdx i)
  | _, _, _, .nil => .nil
  | _, _, 0, .cons _ r => r
  | _, _, i + 1, .cons h r => .cons h (RepL.erase i r)
theorem RepL.dropLast {K : PySem.W.Frag} {F : Hp} {vs : List V} {xs : List D} (r : RepL K fa F vs xs) : RepL K fa F vs.dropLast xs.dropLast := by
  rw [List.dropLast_eq_take, List.dropLast_eq_take, r.length]
  exact r.take _
def gPop (w : W) (ws : List W) (S : Stor) : Res W := match w, ws with
  | .r n, [] => match S[n]? with
    | some (.lst xs) => match xs[xs.length - 1]? with
      | some y => .ok (.d y) (S.set n (.lst xs.dropLast))
      | none => .bad
    | _ => .bad
  | _, _ => .bad
theorem popD : MethD X fa rPop gPop := by
  intro x m H S sg Wx v w vs ws Q s rv rs h
  unfold gPop at h
  split at h
  · rename_i n
    obtain ⟨a, ha, rfl⟩ := rv
    cases rs
    split at h
    · rename_i xs ec
      obtain ⟨us, h1, h2⟩ := s.cell n a _ ha ec
      split at h
      · rename_i y ey
        obtain ⟨z, ez, rz⟩ := h2.get ey
        have hm := List.mem_of_getElem? ha
        refine ⟨a, us, z, rfl, rfl, h1, by rw [h2.length]; exact ez, h z m _ (Step.wrote hm) (s.wrote ha h2.dropLast) ?_⟩
        rw [fz_upd hm]
        exact rz
      · exact h.elim
    · exact h.elim
  · exact h.elim
def gPopAt (w : W) (ws : List W) (S : Stor) : Res W := match w, ws with
  | .r n, [u] => match S[n]?, valD S u with
    | some (.lst xs), some (.int i) => if (decide (0 ≤ i) && decide (i < 2 ^ 63)) = true then match xs[i.toNat]? with
      | some y => .ok (.d y) (S.set n (.lst (xs.eraseIdx i.toNat)))
      | none => .bad
      else .bad
    | _, _ => .bad
  | _, _ => .bad
theorem popAtD : MethD X fa rPopAt gPopAt := by
  intro x m H S sg Wx v w vs ws Q s rv rs h
  unfold gPopAt at h
  split at h
  · rename_i n u
    obtain ⟨a, ha, rfl⟩ := rv
    obtain ⟨z, rfl, rz⟩ := ws1 rs
    split at h
    · rename_i xs i ec eu
      obtain ⟨us, h1, h2⟩ := s.cell n a _ ha ec
      split at h
      · rename_i hb
        rw [Bool.and_eq_true, decide_eq_true_eq, decide_eq_true_eq] at hb
        split at h
        · rename_i y ey
          obtain ⟨q, eq, rq⟩ := h2.get ey
          have hm := List.mem_of_getElem? ha
          have hlt : i.toNat < us.length := (List.getElem?_eq_some_iff.mp eq).1
          refine ⟨a, us, i, i.toNat, q, rfl, by rw [rep_int s rz eu], h1, by omega, hb.2, ?_, eq, h q m _ (Step.wrote hm) (s.wrote ha (h2.erase _)) ?_⟩
          · exact seqIndex_of hb.1 (by omega)
          · rw [fz_upd hm]
            exact rq
        · exact h.elim
      · exact h.elim
    · exact h.elim
  · exact h.elim
/-- sep.join(xs) -/
def gJoin (w : W) (ws : List W) (S : Stor) : Res W := match ws with
  | [u] => match valD S w, valD S u with
    | some (.str a), some (.lst xs) => match strsD xs with
      | some ys => if (ys.map (·.length)).sum + ys.length * a.length ≤ 16777216 then .ok (.d (.str (Txt.join a ys))) S else .bad
      | none => .bad
    | _, _ => .bad
  | _ => .bad
theorem joinD : MethD X fa (fun x xs H Q => ∃ a p, ∃ ys : List Str, x = .str a ∧ xs = [.ref p] ∧ (SqL X.K H p (ys.map V.str) ∨ SqT X.K H p (ys.map V.str)) ∧
    (ys.map (·.length)).sum + ys.length * a.length ≤ 16777216 ∧ Q (.str (Txt.join a ys)) H) gJoin := by
  intro x m H S sg Wx v w vs ws Q s rv rs h
  unfold gJoin at h
  split at h
  · obtain ⟨z, rfl, rz⟩ := ws1 rs
    split at h
    · rename_i a xs ea ex
      split at h
      · rename_i ys ey
        split at h
        · rename_i hz
          obtain ⟨p, us, rfl, hp, rp⟩ := rep_lst s rz ex
          exact ⟨a, p, ys, rep_str s rv ea, rfl, .inl (by rw [← strsD_rep ey rp]; exact hp), hz, ok_use h s (.str _)⟩
        · exact h.elim
      · exact h.elim
    · exact h.elim
  · exact h.elim

/-! ### o[i] = e -/
def subK (f fi : Den W) (rho : Rho) (w : W) (S : Stor) : RS := (f rho S).lift rho fun o S1 => (fi rho S1).lift rho fun i S2 => match o, w with
  | .r n, .d y => match S2[n]?, valD S2 i with
    | some (.lst xs), some (.int k) => match ixN xs.length k with
      | some j => .nx rho (S2.set n (.lst (xs.set j y)))
      | none => .bad
    | _, _ => .bad
  | _, _ => .bad
def sSub (f fi fe : Den W) : SD := fun rho S => (fe rho S).lift rho (subK f fi rho)
theorem ds_sub {i : Expr} {tp : Pos} (he : DE X fa Wx e fe) (ho : DE X fa Wx o f) (hi : DE X fa Wx i fi)
    (ha : ∀ v, assign (.Subscript o i tp) X.env v = (do
      let ov ← holding [v] (eval o X.env)
      let iv ← holding [v, ov] (eval i X.env)
      standAt tp
      holding [v, ov, iv] (setItem ov iv v)
      release [v, ov, iv] []) := by intro _; rfl)
    (hs : swapsWithSole [.Subscript o i tp] e pos.line X.env = pure false := by rfl) (hw : swappedStores [.Subscript o i tp] e X.env = pure none := by rfl)
    (h1 : (assignEach [.Subscript o i tp] X.env).map (·.2) = [assign (.Subscript o i tp) X.env] := by rfl) : DS X fa Wx (.Assign [.Subscript o i tp] e pos) (sSub f fi fe) := by
  refine PS.imp (ps_asg he (pg_sub ho hi set_list ha) hs hw h1) fun E sg H ⟨x, m, rho, S, at_, q⟩ => ?_
  show T X.K fa Wx (relW X.K fa) fe sg H _
  refine stAt at_ q fun m1 H1 S1 v w s1 at1 r1 q1 => ?_
  show T X.K fa Wx (relW X.K fa) f sg H1 _
  unfold subK at q1
  refine stAt at1 q1 fun m2 H2 S2 ov ow s2 at2 r2 q2 => ?_
  show T X.K fa Wx (relW X.K fa) fi sg H2 _
  refine stAt at2 q2 fun m3 H3 S3 iv iw s3 at3 r3 q3 => ?_
  have r1' := (r1.step s2).step s3
  have r2' := r2.step s3
  split at q3
  · rename_i n y
    obtain ⟨a, ha, rfl⟩ := r2'
    split at q3
    · rename_i xs k ec ek
      obtain ⟨us, h1, h2⟩ := at3.s.cell n a _ ha ec
      split at q3
      · rename_i j ej
        have hm := List.mem_of_getElem? ha
        have st : Step m3 H3 m3 (upd H3 a (.lst (us.set j v))) := Step.wrote hm
        exact ⟨a, us, k, j, rfl, rep_int at3.s r3 ek, h1, by rw [h2.length]; exact ej, q3 sg m3 _ st (at3.step st (at3.s.wrote ha (h2.set r1' j)))⟩
      · exact q3.elim
    · exact q3.elim
  · exact q3.elim
end
end DL
namespace DL
open PySem PySem.Spec PyProof.Rows L2

/-! ### defs -/
abbrev Fn := List W → Stor → Res W
def FAfter (K : PySem.W.Frag) (fa : FA) (x m : List Addr) (H : Hp) (Q : VK) (E : XK) : Res W → Prop
  | .ok w S => ∀ v m' H', Step m H m' H' → SRel K fa x m' H' S → RepW K fa (fz (m' ++ x) H') m' v w → Q v H'
  | .exc e S => ∀ c d m' H', Step m H m' H' → SRel K fa x m' H' S → ExRel K fa (fz (m' ++ x) H') H' e c d → E c d H'
  | .bad => False
/-- a def's promise: its function -/
def spD (K : PySem.W.Frag) (fa : FA) (n : Nat) (F : Fn) : Sp := fun vs H Q E => vs.length = n ∧ ∃ x m ws S, SRel K fa x m H S ∧ RepWs K fa (fz (m ++ x) H) m vs ws ∧ FAfter K fa x m H Q E (F ws S)
def runDef (n : Nat) (body : SD) : Fn := fun ws S => match body (ws.map some ++ List.replicate (n - ws.length) none) S with
  | .nx _ S' => .ok (.d .non) S'
  | .rt w S' => .ok w S'
  | .exc e _ S' => .exc e S'
  | _ => .bad
theorem ERel.start {K : PySem.W.Frag} {fa : FA} {F : Hp} {m : List Addr} (N : List Str) : ∀ {vs : List V} {ws : List W}, RepWs K fa F m vs ws → ERel K fa F m (L2.start N vs) (ws.map some ++ List.replicate (N.length - ws.length) none) := fun {vs ws} r => by
  have hl := RepWs.length r
  refine ⟨by unfold L2.start; simp [hl], fun i w e => ?_⟩
  by_cases hi : i < ws.length
  · rw [List.getElem?_append_left (by simpa using hi), List.getElem?_map] at e
    have gt : ∀ {vs : List V} {ws : List W} {i : Nat} {w : W}, RepWs K fa F m vs ws → ws[i]? = some w → ∃ v, vs[i]? = some v ∧ RepW K fa F m v w := by
      intro vs ws i w r
      induction r generalizing i with
      | nil => intro e; simp at e
      | cons h t ih =>
        intro e
        cases i with
        | zero => simp at e; subst e; exact ⟨_, rfl, h⟩
        | succ i => simpa using ih (by simpa using e)
    cases q : ws[i]? with
    | none => rw [q] at e; simp at e
    | some w' =>
      rw [q] at e
      simp at e
      subst e
      obtain ⟨v, h1, h2⟩ := gt r q
      refine ⟨v, ?_, h2⟩
      unfold L2.start
      rw [List.getElem?_append_left (by rw [List.length_map, hl]; exact hi), List.getElem?_map, h1]
      rfl
  · rw [List.getElem?_append_right (by simpa using hi), List.getElem?_replicate] at e
    split at e <;> cases e
section
variable {P : Program} {w : World} {K : PySem.W.Frag} {mg : Str → Option Value} {base : Heap} {fa : FA}
/-- the wish of a def's body -/
abbrev wDef (E : XK) : WX := fun cls d _ H => E cls d H
theorem def_ok {x qual : Str} {st : Stmt} {f : Addr} {fd : FuncData} {N ps : List Str} {k n : Nat} {body : SD} (F : Fun K x qual st f fd) (Sc : FnScope N ps (defScope st)) (hn : ps.length = n)
    (hb : ∀ (cdv : Value) (A : Around) (outer : List Env) (s : Shared) (H : Hp) (E : XK), Room k (A.deeper (envOfC qual (defScope st) s.heap.objs.size f cdv)) →
      DSs (cxOf (L2.CX P w) P w K mg base N qual (defScope st) f cdv A outer s H E) fa (wDef E) (defBody st) body) : FnOk P w K mg base (L2.CX P w) (k + 1) f fd ps (spD K fa n (runDef N.length body)) := by
  refine F.okX Sc (fun vs H Q E h => h.1.trans hn.symm) fun cdv A outer s H vs Q E hr h => ?_
  obtain ⟨hl, y, m, ws, S, sr, rw', q⟩ := h
  refine ⟨_, hb cdv A outer s H E hr, y, m, ws.map some ++ List.replicate (N.length - ws.length) none, S, ⟨sr, ERel.start N rw'⟩, ?_⟩
  unfold runDef at q
  cases eb : body (ws.map some ++ List.replicate (N.length - ws.length) none) S with
  | nx r S' => rw [eb] at q; exact fun sg' m' H' s' a => q .non m' H' s' a.s .non
  | rt w' S' => rw [eb] at q; exact q
  | bk r S' => rw [eb] at q; exact (show False from q).elim
  | ct r S' => rw [eb] at q; exact (show False from q).elim
  | exc e r S' => rw [eb] at q; exact fun c d sg' m' H' s' a x => q c d m' H' s' a.s x
  | bad => rw [eb] at q; exact q
end

/-! ### calls -/
/-- nothing in it names a cell from n on -/
def bel (n : Nat) : W → Bool
  | .r k => decide (k < n)
  | _ => true
def belC (n : Nat) : C → Bool
  | .dk kvs => kvs.all fun p => bel n p.2
  | .dn kvs => kvs.all fun p => bel n p.2
  | .obj _ fs => fs.all fun p => bel n p.2
  | _ => true
def closedS (n : Nat) (S : Stor) : Bool := (S.take n).all (belC n)
def cutS (n : Nat) (S : Stor) : Stor := if closedS n S = true then S.take n else S
theorem cutS_same {n : Nat} {S : Stor} (h : S.length = n) : cutS n S = S := by
  unfold cutS
  split
  · rw [← h, List.take_length]
  · rfl
/-- what the caller keeps of the callee's store -/
def leave (keep : Bool) (n : Nat) : Res W → Res W
  | .ok (.d y) S => .ok (.d y) (cutS n S)
  | .ok (.r k) S => if k < n then .ok (.r k) (cutS n S) else match S[k]? with
    | some (.lst xs) => if closedS n S = true then (if keep = true then .ok (.r n) (S.take n ++ [.lst xs]) else .ok (.d (.lst xs)) (S.take n)) else .ok (.r k) S
    | some _ => .ok (.r k) S
    | none => .bad
  | .ok .l _ => .bad
  | .exc e S => .exc e (cutS n S)
  | .bad => .bad
def dFn (keep : Bool) (F : Fn) (fs : Den (List W)) : Den W := fun rho S => (fs rho S).bind fun ws S1 => leave keep S1.length (F ws S1)
section
variable {K : PySem.W.Frag} {fa : FA} {x m : List Addr} {H : Hp} {S : Stor}
theorem fz_cut {t : List Addr} : Same (fz ((m ++ t) ++ x) H) (fz (m ++ x) H) := fun b u e => by
  have hb : b ∉ (m ++ t) ++ x := fun z => by unfold fz at e; rw [if_pos z] at e; cases e
  have e' : H b = some u := by unfold fz at e; rw [if_neg hb] at e; exact e
  exact fz_of (fun z => hb ((List.mem_append.mp z).elim (fun z => List.mem_append_left _ (List.mem_append_left _ z)) fun z => List.mem_append_right _ z)) e'
theorem RepC.cut {F : Hp} {t : List Addr} {v : V} {w : W} (h : RepC K fa F (m ++ t) v w) (b : bel m.length w = true) : RepC K fa F m v w := by
  cases w with
  | d y => exact h
  | l => exact h
  | r k =>
    obtain ⟨a, h1, h2⟩ := h
    exact ⟨a, by rw [List.getElem?_append_left (of_decide_eq_true b)] at h1; exact h1, h2⟩
theorem KR.cut {κ : Type} {F : Hp} {t : List Addr} : ∀ {vs : List (κ × V)} {ws : List (κ × W)}, KR (RepC K fa F (m ++ t)) vs ws → (ws.all fun p => bel m.length p.2) = true → KR (RepC K fa F m) vs ws
  | _, _, .nil, _ => .nil
  | _, _, .cons r q, b => by
    rw [List.all_cons, Bool.and_eq_true] at b
    exact .cons (r.cut b.1) (KR.cut q b.2)
theorem DN.cut {F F' : Hp} {t : List Addr} : ∀ {L : List Ent} {ws : List (D × W)}, DN K fa F (RepC K fa F' (m ++ t)) L ws → (ws.all fun p => bel m.length p.2) = true → DN K fa F (RepC K fa F' m) L ws
  | _, _, .nil, _ => .nil
  | _, _, .cons r k q z, b => by
    rw [List.all_cons, Bool.and_eq_true] at b
    exact .cons r k (q.cut b.1) (DN.cut z b.2)
theorem Cell.cut {F : Hp} {t : List Addr} {a : Addr} {c : C} (h : Cell K fa F (m ++ t) H a c) (b : belC m.length c = true) : Cell K fa F m H a c := by
  cases c with
  | lst xs => exact h
  | set xs => exact h
  | tab q => exact h
  | dk kvs => obtain ⟨vs, h1, h2⟩ := h; exact ⟨vs, h1, h2.cut b⟩
  | dn kvs => obtain ⟨L, h1, h2⟩ := h; exact ⟨L, h1, h2.cut b⟩
  | obj c fs => obtain ⟨dx, vs, h1, h2⟩ := h; exact ⟨dx, vs, h1, h2.cut b⟩
theorem closedS_at {n : Nat} {S : Stor} (h : closedS n S = true) {i : Nat} {c : C} (e : S[i]? = some c) (hi : i < n) : belC n c = true := by
  refine List.all_eq_true.mp h c ?_
  refine List.mem_of_getElem? (i := i) ?_
  rw [List.getElem?_take_of_lt hi]
  exact e
theorem SRel.cut {t : List Addr} (s : SRel K fa x (m ++ t) H S) (hb : closedS m.length S = true) : SRel K fa x m H (S.take m.length) := by
  have nd := s.nd
  have hl := s.len
  rw [List.length_append] at hl
  refine ⟨?_, by rw [List.length_take]; omega, fun i a c e1 e2 => ?_, s.there⟩
  · rw [List.append_assoc, List.nodup_append] at nd
    rw [List.nodup_append]
    have nd2 := List.nodup_append.mp nd.2.1
    exact ⟨nd.1, nd2.2.1, fun a ha b hb => nd.2.2 a ha b (List.mem_append_right _ hb)⟩
  · have hi : i < m.length := (List.getElem?_eq_some_iff.mp e1).1
    rw [List.getElem?_take_of_lt hi] at e2
    have hc := s.cell i a c (by rw [List.getElem?_append_left hi]; exact e1) e2
    exact (hc.cut (closedS_at hb e2 hi)).move fz_cut rfl
/-- the caller's part, or all -/
theorem SRel.cutS {t : List Addr} (s : SRel K fa x (m ++ t) H S) : ∃ m', (m' = m ∨ m' = m ++ t) ∧ SRel K fa x m' H (DL.cutS m.length S) := by
  unfold DL.cutS
  by_cases hb : closedS m.length S = true
  · rw [if_pos hb]; exact ⟨m, .inl rfl, s.cut hb⟩
  · rw [if_neg hb]; exact ⟨m ++ t, .inr rfl, s⟩
theorem SRel.cutKeep {t : List Addr} (s : SRel K fa x (m ++ t) H S) {k : Nat} {a : Addr} {xs : List D} (hk : (m ++ t)[k]? = some a) (hm : m.length ≤ k) (hS : S[k]? = some (.lst xs)) (hb : closedS m.length S = true) : SRel K fa x (m ++ [a]) H (S.take m.length ++ [.lst xs]) ∧ a ∉ m ∧ a ∉ x ∧ ∃ vs, H a = some (.lst vs) ∧ RepL K fa (fz (m ++ t ++ x) H) vs xs := by
  obtain ⟨vs, h1, h2⟩ := s.cell k a _ hk hS
  have nd := s.nd
  have hat : a ∈ t := by
    rw [List.getElem?_append_right hm] at hk
    exact List.mem_of_getElem? hk
  rw [List.append_assoc, List.nodup_append] at nd
  have nd2 := List.nodup_append.mp nd.2.1
  have n1 : a ∉ m := fun z => nd.2.2 a z a (List.mem_append_left _ hat) rfl
  have n2 : a ∉ x := fun z => nd2.2.2 a hat a z rfl
  have c := s.cut hb
  have same : Same (fz ((m ++ t) ++ x) H) (fz (m ++ [a] ++ x) H) := fun b u e => by
    have hb : b ∉ (m ++ t) ++ x := fun z => by unfold fz at e; rw [if_pos z] at e; cases e
    have e' : H b = some u := by unfold fz at e; rw [if_neg hb] at e; exact e
    refine fz_of (fun z => hb ?_) e'
    rcases List.mem_append.mp z with z | z
    · rcases List.mem_append.mp z with z | z
      · exact List.mem_append_left _ (List.mem_append_left _ z)
      · rw [List.mem_singleton.mp z]; exact List.mem_append_left _ (List.mem_append_right _ hat)
    · exact List.mem_append_right _ z
  refine ⟨⟨?_, ?_, fun i b d e1 e2 => ?_, s.there⟩, n1, n2, vs, h1, h2⟩
  · have e : m ++ [a] ++ x = m ++ a :: x := by simp
    rw [e, List.nodup_append]
    refine ⟨nd.1, List.nodup_cons.mpr ⟨n2, nd2.2.1⟩, fun p hp q hq => ?_⟩
    rcases List.mem_cons.mp hq with rfl | hq
    · exact fun z => n1 (z ▸ hp)
    · exact nd.2.2 p hp q (List.mem_append_right _ hq)
  · have := c.len
    simp only [List.length_append, List.length_singleton]
    omega
  · have hlm : (S.take m.length).length = m.length := c.len.symm
    by_cases hi : i < m.length
    · rw [List.getElem?_append_left hi] at e1
      rw [List.getElem?_append_left (by omega), List.getElem?_take_of_lt hi] at e2
      have hc := s.cell i b d (by rw [List.getElem?_append_left hi]; exact e1) e2
      exact (hc.cut (closedS_at hb e2 hi)).moveX same rfl ⟨[a], rfl⟩
    · rw [List.getElem?_append_right (by omega)] at e1
      rw [List.getElem?_append_right (by omega), hlm] at e2
      have h0 : i - m.length = 0 := by
        have := (List.getElem?_eq_some_iff.mp e1).1
        simp at this
        omega
      rw [h0] at e1 e2
      simp at e1 e2
      subst e1 e2
      exact ⟨vs, h1, RepL.mono same xs vs h2⟩
/-- from what the caller wants to what the callee is asked -/
theorem leave_use {keep : Bool} {sg : L2.St} {Wx : WX} {Q : VK} {r : Res W} (hl : m.length = S.length) (h : After K fa x m H sg Wx (relW K fa) Q (leave keep S.length r)) : FAfter K fa x m H Q (WE Wx sg) r := by
  rw [← hl] at h
  cases r with
  | bad => exact h
  | exc e S' =>
    intro c d m' H' s' r' x'
    obtain ⟨t, rfl⟩ := s'.pre
    obtain ⟨m2, hm, r2⟩ := r'.cutS
    have sub : Same (fz (m ++ t ++ x) H') (fz (m2 ++ x) H') := by
      rcases hm with rfl | rfl
      · exact fz_cut
      · exact fun _ _ z => z
    have st : Step m H m2 H' := by
      rcases hm with rfl | rfl
      · exact ⟨⟨[], by simp⟩, fun _ z n => absurd z n, s'.keep⟩
      · exact s'
    refine h c d m2 H' st r2 ?_
    obtain ⟨e1, e2⟩ := x'
    refine ⟨e1, ?_⟩
    revert e2
    cases e.arg with
    | none => exact fun e2 => e2
    | some p => exact fun ⟨dx, v, a, b, c⟩ => ⟨dx, v, a, b, Rep.mono sub _ _ c⟩
  | ok w S' =>
    intro v m' H' s' r' rw'
    have s0 := s'
    obtain ⟨t, rfl⟩ := s'.pre
    obtain ⟨m2, hm, r2⟩ := r'.cutS
    have sub : Same (fz (m ++ t ++ x) H') (fz (m2 ++ x) H') := by
      rcases hm with rfl | rfl
      · exact fz_cut
      · exact fun _ _ z => z
    have st : Step m H m2 H' := by
      rcases hm with rfl | rfl
      · exact ⟨⟨[], by simp⟩, fun _ z n => absurd z n, s'.keep⟩
      · exact s'
    cases w with
    | d y => exact h v m2 H' st r2 (Rep.mono sub y v rw')
    | l => exact (show False from h).elim
    | r k =>
      have rw0 := rw'
      obtain ⟨a, ha, rfl⟩ := rw'
      unfold leave at h
      dsimp only at h
      by_cases hk : k < m.length
      · rw [if_pos hk] at h
        refine h (.ref a) m2 H' st r2 ⟨a, ?_, rfl⟩
        rcases hm with hm | hm
        · rw [hm]
          rw [List.getElem?_append_left hk] at ha
          exact ha
        · rw [hm]
          exact ha
      · rw [if_neg hk] at h
        cases eS : S'[k]? with
        | none => rw [eS] at h; exact (show False from h).elim
        | some c =>
          cases c with
          | lst xs =>
            rw [eS] at h
            by_cases hb : closedS m.length S' = true
            · obtain ⟨sk, n1, n2, vs, h1, h2⟩ := r'.cutKeep ha (by omega) eS hb
              have st : Step m H m H' := ⟨⟨[], by simp⟩, fun _ z n => absurd z n, s'.keep⟩
              dsimp only at h
              rw [if_pos hb] at h
              cases keep with
              | true =>
                have h : After K fa x m H sg Wx (relW K fa) Q (.ok (.r m.length) (S'.take m.length ++ [.lst xs])) := h
                refine h (.ref a) (m ++ [a]) H' ⟨⟨[a], rfl⟩, fun b hb hn => ?_, s'.keep⟩ sk ⟨a, by simp, rfl⟩
                rcases List.mem_append.mp hb with hb | hb
                · exact absurd hb hn
                · rw [List.mem_singleton.mp hb]
                  exact s'.new a (List.mem_of_getElem? ha) n1
              | false =>
                have h : After K fa x m H sg Wx (relW K fa) Q (.ok (.d (.lst xs)) (S'.take m.length)) := h
                refine h (.ref a) m H' st (r'.cut hb) (.lst (.inl (.inl (fz_of (fun z => (List.mem_append.mp z).elim n1 n2) h1))) (RepL.mono fz_cut xs vs h2))
            · dsimp only at h
              rw [if_neg hb] at h
              exact h (.ref a) _ H' s0 r' rw0
          | set xs => rw [eS] at h; exact h (.ref a) _ H' s0 r' rw0
          | tab q' => rw [eS] at h; exact h (.ref a) _ H' s0 r' rw0
          | dk q' => rw [eS] at h; exact h (.ref a) _ H' s0 r' rw0
          | dn q' => rw [eS] at h; exact h (.ref a) _ H' s0 r' rw0
          | obj q' q'' => rw [eS] at h; exact h (.ref a) _ H' s0 r' rw0
end
section
variable {X : Cx} {fa : FA} {Wx : WX} {k n : Nat} {f : Addr} {fd : FuncData} {ps : List Str} {F : Fn} {y : Str} {p pos : Pos} {e : Expr} {es : List Expr} {fs : Den (List W)}
theorem dfn_use {ta : TA} (hl : ∀ rho S ws S1, fs rho S = .ok ws S1 → ws.length = n) (keep : Bool) (ha : ∀ sg H Q, T X.K fa Wx (fun F m vs ws => RepWs X.K fa F m vs ws) fs sg H Q → ta sg H Q) {sg : L2.St} {H : Hp} {Q : VK} (h : T X.K fa Wx (relW X.K fa) (dFn keep F fs) sg H Q) :
    ta sg H fun vs H1 => spD X.K fa n F vs H1 Q (WE Wx sg) := by
  obtain ⟨x, m, rho, S, at_, q⟩ := h
  refine ha sg H _ ⟨x, m, rho, S, at_, ?_⟩
  have q1 := After.then (rel := fun F m vs ws => RepWs X.K fa F m vs ws) q
  revert q1
  cases ef : fs rho S with
  | bad => exact fun z => z
  | exc e S1 => exact fun z => z
  | ok ws S1 =>
    intro q1 vs m1 H1 s1 t1 r1
    -- the continuation as it was written: at ws, S1
    have q0 : After X.K fa x m H sg Wx (relW X.K fa) Q (leave keep S1.length (F ws S1)) := by
      have z := q
      unfold dFn at z
      rw [ef] at z
      exact z
    have q2 : After X.K fa x m1 H1 sg Wx (relW X.K fa) Q (leave keep S1.length (F ws S1)) := by
      revert q0
      cases leave keep S1.length (F ws S1) with
      | bad => exact id
      | exc e S2 => exact fun h c d m' H' s2 r2 x2 => h c d m' H' (s1.trans s2) r2 x2
      | ok w2 S2 => exact fun h v2 m' H' s2 r2 rw2 => h v2 m' H' (s1.trans s2) r2 rw2
    exact ⟨(RepWs.length r1).trans (hl rho S ws S1 ef), x, m1, ws, S1, t1, r1, leave_use t1.len q2⟩
/-- f(e, ..): a def of the text -/
theorem de_fn (keep : Bool) (G : FnOk X.prog X.w X.K X.mg X.base (L2.CX X.prog X.w) k f fd ps (spD X.K fa n F)) (hr : Room k X.A) (hg : Gl X y) (hm : X.mg y = some (.ref f)) (hk : PySem.W.keepIn X.K (.ref f) = true) (hb : Binds X.K fd ps []) (tk : Takes X Wx)
    (ha : DA X fa Wx (e :: es) fs) (hl : ∀ rho S ws S1, fs rho S = .ok ws S1 → ws.length = n) (hdb : (y == ("__debug__" : Str)) = false := by decide) (he : starEach (e :: es) X.env = (false, eval e X.env) :: starEach es X.env := by rfl) (hpl : (backTo pos (starEach es X.env)).any (·.1) = false := by rfl) :
    DE X fa Wx (.Call (.Name y p) (e :: es) [] pos) (dFn keep F fs) := by
  refine PE.imp (pe_callS (E := WE Wx) G hr hg hm hk hb (fun sg => passAt tk sg) ha hdb he hpl) fun sg H Q h => ?_
  exact dfn_use hl keep (fun _ _ _ q => q) h
theorem len_nil : ∀ rho S ws S1, dNil rho S = .ok ws S1 → ws.length = 0 := fun rho S ws S1 e => by
  cases e; rfl
theorem len_cons {f : Den W} {n : Nat} (h : ∀ rho S ws S1, fs rho S = .ok ws S1 → ws.length = n) : ∀ rho S ws S1, dCons f fs rho S = .ok ws S1 → ws.length = n + 1 := fun rho S ws S1 e => by
  unfold dCons Res.bind at e
  cases e1 : f rho S with
  | bad => rw [e1] at e; cases e
  | exc x S2 => rw [e1] at e; cases e
  | ok w S2 =>
    rw [e1] at e
    dsimp only at e
    cases e2 : fs rho S2 with
    | bad => rw [e2] at e; cases e
    | exc x S3 => rw [e2] at e; cases e
    | ok vs S3 =>
      rw [e2] at e
      cases e
      rw [List.length_cons, h _ _ _ _ e2]
/-- f(): a def without arguments -/
theorem de_fn0 (keep : Bool) (G : FnOk X.prog X.w X.K X.mg X.base (L2.CX X.prog X.w) k f fd [] (spD X.K fa 0 F)) (hr : Room k X.A) (hg : Gl X y) (hm : X.mg y = some (.ref f)) (hk : PySem.W.keepIn X.K (.ref f) = true) (hb : Binds X.K fd [] []) (tk : Takes X Wx)
    (hdb : (y == ("__debug__" : Str)) = false := by decide) : DE X fa Wx (.Call (.Name y p) [] [] pos) (dFn keep F dNil) := by
  refine ⟨fun pins s sg H Q I h => ?_⟩
  refine wpAny_Call_Name_kw (ld_glob I hg hm ?_ hdb)
  have h2 : T X.K fa Wx (fun F m vs ws => RepWs X.K fa F m vs ws) dNil sg H fun vs H1 => spD X.K fa 0 F vs H1 Q (WE Wx sg) := dfn_use len_nil keep (fun _ _ _ q => q) h
  obtain ⟨x, m, rho, S, at_, q⟩ := h2
  have q' := q [] m H (Step.refl _ _) at_.s .nil
  exact PySem.W.callWith_K0 I.kIn hk (run_fnS (us := []) G hr hb (passAt tk sg) I .nil q')
/-- a local name that holds a def: tab tells what each does -/
structure Tab (P : Program) (w : World) (K : PySem.W.Frag) (mg : Str → Option Value) (base : Heap) (fa : FA) (k n : Nat) (tab : Nat → Option Fn) : Prop where
  ok : ∀ i F, tab i = some F → ∃ (fd : FuncData) (ps : List Str), FnOk P w K mg base (L2.CX P w) k (fa i) fd ps (spD K fa n F) ∧ PySem.W.keepIn K (.ref (fa i)) = true ∧ Binds K fd ps []
def dLoc (keep : Bool) (i : Nat) (tab : Nat → Option Fn) (fs : Den (List W)) : Den W := fun rho S => match rho[i]? with
  | some (some (.d (.fn j))) => match tab j with
    | some F => dFn keep F fs rho S
    | none => .bad
  | _ => .bad
theorem de_loc (keep : Bool) {i : Nat} {tab : Nat → Option Fn} (G : Tab X.prog X.w X.K X.mg X.base fa k n tab) (hr : Room k X.A) (hN : X.N[i]? = some y) (hv : Vis X.env.scope y) (tk : Takes X Wx)
    (ha : DA X fa Wx (e :: es) fs) (hl : ∀ rho S ws S1, fs rho S = .ok ws S1 → ws.length = n) (hdb : (y == ("__debug__" : Str)) = false := by decide) (hcd : (y == ("__classdict__" : Str)) = false := by decide)
    (he : starEach (e :: es) X.env = (false, eval e X.env) :: starEach es X.env := by rfl) (hpl : (backTo pos (starEach es X.env)).any (·.1) = false := by rfl) : DE X fa Wx (.Call (.Name y p) (e :: es) [] pos) (dLoc keep i tab fs) := by
  refine ⟨fun pins s sg H Q I ⟨x, m, rho, S, at_, q⟩ => ?_⟩
  unfold dLoc at q
  split at q
  · rename_i j ej
    split at q
    · rename_i F eF
      obtain ⟨v, h1, h2⟩ := at_.e.get i _ ej
      obtain ⟨fd, ps, G1, hk, hb⟩ := G.ok j F eF
      have ev : v = .ref (fa j) := by cases h2; rfl
      subst ev
      refine wpAny_Call_Name_kw (thn ((pe_var (pos := p) hN hv hdb hcd).run pins s sg H (fun v H1 => v = .ref (fa j) ∧ H1 = H) I ⟨_, h1, rfl, rfl⟩) fun u s1 ⟨v, H1, I1, r1, q1⟩ => ?_)
      obtain ⟨rfl, rfl⟩ := q1
      cases r1
      refine PySem.W.callWith_K (h₀ := X.base) I.ok.mod.kin hk (thn (ha.run pos pins s1 sg _ _ I1 (dfn_use (n := n) hl keep (fun _ _ _ q => q) ⟨x, m, rho, S, at_, q⟩)) fun us s2 ⟨vs, H2, I2, r, q⟩ => ⟨I2.kIn, ?_⟩) he hpl
      exact run_fnS G1 hr hb (passAt tk sg) I2 r q
    · exact q.elim
  · exact q.elim
/-- a def as a value -/
theorem de_def {j : Nat} (hg : Gl X y) (hm : X.mg y = some (.ref (fa j))) (hdb : (y == ("__debug__" : Str)) = false := by decide) : DE X fa Wx (.Name y p) (dC (.fn j)) := de_c (pe_glob hg hm (show RelV (.ref (fa j)) (.ref (fa j)) from rfl) hdb) fun _ => .fn j
/-- a module's int -/
theorem de_gint {i : Int} {t : Tok} (hg : Gl X y) (hm : X.mg y = some (.int i t)) (hdb : (y == ("__debug__" : Str)) = false := by decide) : DE X fa Wx (.Name y p) (dC (.int i)) := de_c (pe_glob hg hm (show RelV (.int i) (.int i t) from ⟨t, rfl⟩) hdb) fun _ => .int i

/-! ### raise, try -/
def sRaise (c : Nat) : SD := fun rho S => .exc ⟨c, none⟩ rho S
/-- X(): an own class without own __init__ -/
theorem pmk_own0 {C : Addr} {bmB : List Value} {B newId initId : String} (Fb : ExcBaseFacts B newId initId bmB) (q : PySem.W.excIn X.K C bmB newId = true) (gC : X.mg y = some (.ref C)) (kC : PySem.W.keepIn X.K (.ref C) = true) (r : Raises X (.ref C)) (hg : Gl X y)
    (hdb : (y == ("__debug__" : Str)) = false := by decide) : PMk X (.Call (.Name y p) [] [] pos) (fun _ H Q => Q (.ref C) none H) := by
  intro pins s sg H Q I h
  refine wpAny_Call_Name_kw (ld_glob I hg gC ?_ hdb)
  refine PySem.W.callWith_K0 I.kIn kC ?_
  obtain ⟨bm, N, nm, qn, bs, hdct, sn, sub, ab, col, dd, k0, k1, k2, k3, k5, mN, hC, hN, hni, TT⟩ := exc_obj I.kIn q
  exact wpAny_call_exc_subT Fb TT hC hN hni (fun h' e hm => mk_of I hm r h (I.hok.gone hm.new)) (Nat.zero_le _)
theorem ds_raise0 {c : Nat} {ex : Expr} (hc : X.calm = true) (tk : Takes X Wx) (he : PMk X ex (fun _ H Q => Q (.ref (fa c)) none H)) : DS X fa Wx (.Raise (some ex) none pos) (sRaise c) := by
  refine PS.imp (ps_raise hc tk he) fun E sg H ⟨x, m, rho, S, a, q⟩ => ?_
  exact q _ _ sg m H (Step.refl _ _) a ⟨rfl, rfl⟩
def RS.calm : RS → RS
  | .exc _ _ _ => .bad
  | r => r
theorem SAfter.calm {K : PySem.W.Frag} {x m : List Addr} {H : Hp} {E : Ends} {r : RS} (h : SAfter K fa x m H Wx E r.calm) : SAfter K fa x m H W0 E r := by
  cases r with
  | exc e r S => exact (show False from h).elim
  | nx r S => exact h
  | rt w S => exact h
  | bk r S => exact h
  | ct r S => exact h
  | bad => exact h
/-- try: .. except C: .. (no name); ex tells which classes the clause takes -/
def sTry (ex : Nat → Option Bool) (body suite : SD) : SD := fun rho S => match body rho S with
  | .exc e rho' S' => match ex e.cls with
    | some true => (suite rho' S').calm
    | some false => .exc e rho' S'
    | none => .bad
  | o => o
theorem ds_try {cv : Value} {ex : Nat → Option Bool} {z : Str} {body suite : List Stmt} {b0 : Stmt} {np pos' : Pos} {db dsu : SD} (hs : X.stack = X.env :: X.outer) (hf : X.env.frame = some X.env.locals) (hc : Names X z cv) (tk : Takes X Wx)
    (hex : ∀ i b, ex i = some b → PySem.W.exmOne X.K (.ref (fa i)) cv = some b)
    (hb : ∀ (W' : WX) (pn : List (Addr × Obj)) (xe : Value → Shared → Prop), Takes (X.tr pn xe) W' → PassesOwn (model X.prog X.w) X.A X.env xe → DSs (X.tr pn xe) fa W' body db)
    (hsu : ∀ (a : Addr) (pn : List (Addr × Obj)), DSs (X.suite a pn) fa W0 (b0 :: suite) dsu) :
    DS X fa Wx (.Try body [.ExceptHandler (some (.Name z np)) none (b0 :: suite) pos'] [] [] pos) (sTry ex db dsu) := by
  refine PS.imp (ps_try_only (tb := fun W' => TSd X.K fa W' db) (ts := fun _ _ _ => TSd X.K fa W0 dsu) hs hf hc tk hb (fun a oe cls d pn _ _ => hsu a _)) fun E sg H ⟨x, m, rho, S, at_, q⟩ => ?_
  refine ⟨x, m, rho, S, at_, ?_⟩
  unfold sTry at q
  cases eb : db rho S with
  | exc e r S' =>
    rw [eb] at q
    dsimp only at q
    intro c d sg' m' H' s' a' xr
    cases ee : ex e.cls with
    | none => rw [ee] at q; exact (show False from q).elim
    | some b =>
      rw [ee] at q
      refine ⟨b, by rw [xr.1]; exact hex _ _ ee, fun hb' na _ => ?_, fun hb' => ?_⟩
      · subst hb'
        exact ⟨x, m', r, S', a', SAfter.calm (SAfter.step s' q)⟩
      · subst hb'
        exact q c d sg' m' H' s' a' xr
  | nx r S' => rw [eb] at q; exact q
  | rt w S' => rw [eb] at q; exact q
  | bk r S' => rw [eb] at q; exact q
  | ct r S' => rw [eb] at q; exact q
  | bad => rw [eb] at q; exact q
end
end DL
namespace DL
open PySem PySem.Spec PyProof.Rows L2 StX
theorem hu65 {A : Around} {k : Nat} (r : Room k A) : A.units + 65 < cLine := by have := r.un; omega
theorem hu66 {A : Around} {k : Nat} (r : Room k A) : A.units + 66 < cLine := by have := r.un; omega
/-! ### a comprehension within a comprehension's block -/
theorem rel_free {p : Str → Bool} : ∀ {names : List (Str × NameKind)} {y : Str}, names.lookup y = some .free → (names.map fun (n, k) => if (k == NameKind.free && p n) then (n, NameKind.cell) else (n, k)).lookup y = some .cell ∨ (names.map fun (n, k) => if (k == NameKind.free && p n) then (n, NameKind.cell) else (n, k)).lookup y = some .free
  | [], _, h => by simp at h
  | (n, k) :: r, y, h => by
    have ih := @rel_free p r y
    rw [List.lookup_cons] at h
    rw [List.map_cons]
    cases hy : y == n with
    | true =>
      rw [hy] at h
      cases h
      by_cases hp : p n = true
      · left; simp [hp, List.lookup_cons, hy]
      · right; simp [hp, List.lookup_cons, hy]
    | false =>
      rw [hy] at h
      have z := ih h
      have e : ∀ t : List (Str × NameKind), List.lookup y ((if (k == NameKind.free && p n) = true then (n, NameKind.cell) else (n, k)) :: t) = t.lookup y := fun t => by
        by_cases hc : (k == NameKind.free && p n) = true
        · rw [if_pos hc, List.lookup_cons, hy]
        · rw [if_neg hc, List.lookup_cons, hy]
      dsimp only
      rw [e]
      exact z
theorem rel_cell {p : Str → Bool} : ∀ {names : List (Str × NameKind)} {y : Str}, names.lookup y = some .cell → (names.map fun (n, k) => if (k == NameKind.free && p n) then (n, NameKind.cell) else (n, k)).lookup y = some .cell
  | [], _, h => by simp at h
  | (n, k) :: r, y, h => by
    have ih := @rel_cell p r y
    rw [List.lookup_cons] at h
    rw [List.map_cons]
    cases hy : y == n with
    | true =>
      rw [hy] at h
      cases h
      simp [List.lookup_cons, hy]
    | false =>
      rw [hy] at h
      have e : ∀ t : List (Str × NameKind), List.lookup y ((if (k == NameKind.free && p n) = true then (n, NameKind.cell) else (n, k)) :: t) = t.lookup y := fun t => by
        by_cases hc : (k == NameKind.free && p n) = true
        · rw [if_pos hc, List.lookup_cons, hy]
        · rw [if_neg hc, List.lookup_cons, hy]
      dsimp only
      rw [e]
      exact ih h
theorem blkOk_nest {N : List Str} {env0 : Env} {scope0 scope : Scope} {own : List (Str × Nat)} (h : blkC N scope0 scope own = true) : BlkOk N (relabel scope0 env0) scope own := by
  have b := blkOk_by h
  refine ⟨b.kind, b.uniq, b.ix, fun y hy e => ?_, b.own⟩
  show (scope0.names.map fun (n, k) => if (k == NameKind.free && env0.scope.kind == .function && env0.kindOf n == some .cell) then (n, NameKind.cell) else (n, k)).lookup y.1 = _ ∨ (scope0.names.map fun (n, k) => if (k == NameKind.free && env0.scope.kind == .function && env0.kindOf n == some .cell) then (n, NameKind.cell) else (n, k)).lookup y.1 = _
  have ef : (fun (x : Str × NameKind) => match x with | (n, k) => if (k == NameKind.free && env0.scope.kind == ScopeKind.function && env0.kindOf n == some NameKind.cell) = true then (n, NameKind.cell) else (n, k)) = fun (x : Str × NameKind) => match x with | (n, k) => if (k == NameKind.free && (env0.scope.kind == ScopeKind.function && env0.kindOf n == some NameKind.cell)) = true then (n, NameKind.cell) else (n, k) := by
    funext x
    obtain ⟨n, k⟩ := x
    dsimp only
    rw [Bool.and_assoc]
  rw [ef]
  rcases b.free y hy e with z | z
  · exact .inl (rel_cell (p := fun n => env0.scope.kind == .function && env0.kindOf n == some .cell) z)
  · exact rel_free (p := fun n => env0.scope.kind == .function && env0.kindOf n == some .cell) z
/-! ### *e in a display or call -/
section
variable {X : Cx} {fa : FA} {Wx : WX} {pos p : Pos} {e : Expr} {es : List Expr} {f : Den W} {fs : Den (List W)}
def starK (w : W) (ws : List W) (S : Stor) : Res (List W) := match valD S w with
  | some (.lst xs) => .ok (xs.map W.d ++ ws) S
  | some (.tup xs) => .ok (xs.map W.d ++ ws) S
  | _ => .bad
/-- the starred one is told before the others are reckoned -/
def dStr (f : Den W) (g : Den (List W)) : Den (List W) := fun rho S => (f rho S).bind fun w S1 => match valD S1 w with
  | some (.lst xs) => (g rho S1).bind fun ws S2 => .ok (xs.map W.d ++ ws) S2
  | some (.tup xs) => (g rho S1).bind fun ws S2 => .ok (xs.map W.d ++ ws) S2
  | _ => .bad
theorem repWs_app {K : PySem.W.Frag} {F : Hp} {m : List Addr} : ∀ {vs us : List V} {ws ts : List W}, RepWs K fa F m vs ws → RepWs K fa F m us ts → RepWs K fa F m (vs ++ us) (ws ++ ts)
  | _, _, _, _, .nil, t => t
  | _, _, _, _, .cons h r, t => .cons h (repWs_app r t)
theorem da_star (he : DE X fa Wx e f) (hr : DA X fa Wx es fs) (hs : starEach (.Starred e p :: es) X.env = (true, eval e X.env) :: starEach es X.env := by rfl) : DA X fa Wx (.Starred e p :: es) (dStr f fs) := by
  refine PA.imp (pa_star he hr hs) fun sg H Q h => ?_
  show T X.K fa Wx (relW X.K fa) f sg H _
  refine T.one (r3 := fun F m vs ws => RepWs X.K fa F m vs ws) (g := fun rho w S1 => match valD S1 w with
    | some (.lst xs) => (fs rho S1).bind fun ws S2 => .ok (xs.map W.d ++ ws) S2
    | some (.tup xs) => (fs rho S1).bind fun ws S2 => .ok (xs.map W.d ++ ws) S2
    | _ => .bad) (fun _ _ _ q => q) (fun x m H1 S v a rho at_ ra q => ?_) h
  have go : ∀ (us : List V) (xs : List D), RepL X.K fa (fz (m ++ x) H1) us xs → After X.K fa x m H1 sg Wx (fun F m vs ws => RepWs X.K fa F m vs ws) Q ((fs rho S).bind fun ws S2 => .ok (xs.map W.d ++ ws) S2) →
      T X.K fa Wx (fun F m vs ws => RepWs X.K fa F m vs ws) fs sg H1 fun ys H2 => Q (us ++ ys) H2 := fun us xs rl q => by
    refine ⟨x, m, rho, S, at_, ?_⟩
    have q1 := After.then (rel := fun F m vs ws => RepWs X.K fa F m vs ws) q
    revert q1
    cases fs rho S with
    | bad => exact fun z => z
    | exc e S1 => exact fun z => z
    | ok ws S1 =>
      intro q1 ys m2 H2 s2 t2 r2
      obtain ⟨m2', w2', S2', t2, u2, rw2', q2⟩ := q1 ys m2 H2 s2 t2 r2
      exact q2.ok u2 (repWs_app (RepWs.step t2 (repWs_map rl)) rw2')
  split at q
  · rename_i xs ex
    obtain ⟨p, us, rfl, hp, rp⟩ := rep_lst at_.s ra ex
    exact ⟨p, us, rfl, .inr hp, go us xs rp q⟩
  · rename_i xs ex
    obtain ⟨p, us, rfl, hp, rp⟩ := rep_tup at_.s ra ex
    exact ⟨p, us, rfl, .inl hp, go us xs rp q⟩
  · exact q.elim
end
/-! ### t[::-1] -/
theorem pick_back (its : List Value) : ((List.range its.length).filterMap fun (k : Nat) => its.toArray[((its.length : Int) - 1 + (k : Int) * (-1)).toNat]?) = its.reverse := by
  have h : ∀ k ∈ List.range its.length, its.toArray[((its.length : Int) - 1 + (k : Int) * (-1)).toNat]? = its.reverse[k]? := fun k hk => by
    have hk' : k < its.length := List.mem_range.mp hk
    rw [List.getElem?_reverse hk']
    have e : ((its.length : Int) - 1 + (k : Int) * (-1)).toNat = its.length - 1 - k := by omega
    rw [e]
    simp
  have gen : ∀ (l : List Nat) (f g : Nat → Option Value), (∀ k ∈ l, f k = g k) → l.filterMap f = l.filterMap g := by
    intro l f g
    induction l with
    | nil => intro _; rfl
    | cons a r ih =>
      intro hh
      rw [List.filterMap_cons, List.filterMap_cons, hh a List.mem_cons_self, ih fun k hk => hh k (List.mem_cons_of_mem _ hk)]
  rw [gen _ _ _ h]
  have all : ∀ l : List Value, (List.range l.length).filterMap (fun k => l[k]?) = l := by
    intro l
    induction l with
    | nil => rfl
    | cons a r ih =>
      rw [List.length_cons, List.range_succ_eq_map, List.filterMap_cons]
      simp only [List.getElem?_cons_zero]
      rw [List.filterMap_map]
      have : ((fun k => (a :: r)[k]?) ∘ Nat.succ) = fun k => r[k]? := by
        funext k
        simp
      rw [this, ih]
  have := all its.reverse
  rw [List.length_reverse] at this
  exact this
section
variable {prog : Program} {w : World} {A : Around} {E : Value → Shared → Prop} {s : Shared}
theorem tuple_back {t sl : Addr} {its : List Value} {vl vu vs : Value} {Q : Value → Shared → Prop} (ht : IsTup s.heap t its.toArray) (hs : s.heap.IsSliceOf sl vl vu vs) (pl : IsPart vl none) (pu : IsPart vu none) (ps : IsPart vs (some (-1)))
    (h : Q (.ref s.heap.objs.size) { s with heap := s.heap.push { cls := .type "tuple", data := .seq its.reverse.toArray } }) (hz : its.length ≤ sizeLine) : wpAny (model prog w) A (getItem (.ref t) (.ref sl)) Q E s := by
  obtain ⟨os, hos, hcs, hds⟩ := id hs
  have hT : s.TypeIs (.ref sl) "slice" := ⟨os, hos, hcs⟩
  have ok : sizeOk (.seq its.reverse.toArray) := by
    show its.reverse.toArray.size ≤ sizeLine
    rw [List.size_toArray, List.length_reverse]
    exact hz
  unfold getItem
  try with_reducible refine wpAny_holding ?_
  first | refine wpAny_bind (wpAny_pure ?_) | skip
  refine wpAny_bind (wpAny_sequenceKey ht.typeIs (by decide) (wpAny_bind (wpAny_callSpecial?_slot (name := Str.ofString "__getitem__") ht.typeIs PyProof.Rows.slot_tuple_getitem (wpAny_call_entry PyProof.Rows.slot_tuple_getitem ht.typeIs entry_tuple_getitem ?_ (args_tuple_getitem _ _)))))
  show wpAny _ _ (Builtin.Tuple.tupleItemsOf (.ref t) >>= _) _ _ s
  refine wpAny_bind (tupleItemsOf_ ht (wpAny_bind (wpAny_typeOf hT ?_)))
  rw [if_pos (by decide)]
  refine wpAny_bind ?_
  have parts : ∀ A' : Around, wpAny (model prog w) A' (Builtin.Slice.sliceApplied (.ref sl) (pure (its.toArray.size : Int))) (fun r s' => r = ((its.length : Int) - 1, -1, its.length) ∧ s' = s) E s := fun A' => by
    unfold Builtin.Slice.sliceApplied Builtin.Slice.sliceFields
    refine wpAny_bind (wpAny_bind (wpAny_field hos hds (x := vl) rfl (wpAny_bind (wpAny_field hos hds (x := vu) rfl (wpAny_bind (wpAny_field hos hds (x := vs) rfl (wpAny_pure (wpAny_bind (HT.slicePart_ ps ?_)))))))))
    show wpAny _ _ (if ((-1 : Int) == 0) = true then _ else _) _ _ s
    rw [if_neg (by decide)]
    refine wpAny_bind (HT.slicePart_ pl (wpAny_bind (HT.slicePart_ pu (wpAny_bind (wpAny_pure ?_)))))
    refine wpAny_pure ⟨?_, rfl⟩
    have e1 : Builtin.Slice.sliceAdjust none none (-1) (its.toArray.size : Int) = ((its.length : Int) - 1, -1) := by
      unfold Builtin.Slice.sliceAdjust
      simp
    have e2 : Builtin.Slice.slicePlaces ((its.length : Int) - 1) (-1) (-1) = its.length := by
      unfold Builtin.Slice.slicePlaces
      have n1 : ¬ ((-1 : Int) > 0) := by omega
      simp only [n1, if_false]
      have hd : (-(-1) : Int) = 1 := rfl
      by_cases hl : (its.length : Int) - 1 > -1
      · rw [if_pos hl, hd, Int.ediv_one]
        omega
      · rw [if_neg hl]
        omega
    show ((Builtin.Slice.sliceAdjust none none (-1) (its.toArray.size : Int)).1, (-1 : Int), Builtin.Slice.slicePlaces (Builtin.Slice.sliceAdjust none none (-1) (its.toArray.size : Int)).1 (Builtin.Slice.sliceAdjust none none (-1) (its.toArray.size : Int)).2 (-1)) = _
    rw [e1, e2]
  refine thn (parts _) fun r s' ⟨er, es⟩ => ?_
  subst er es
  show wpAny _ _ (if ((its.length : Int) - 1 == 0 && (-1 : Int) == 1 && its.length == its.toArray.size) = true then _ else _) _ _ _
  rw [if_neg (by simp)]
  show wpAny _ _ (Builtin.Tuple.tupleExact ((List.range its.length).filterMap fun (k : Nat) => its.toArray[((its.length : Int) - 1 + (k : Int) * (-1)).toNat]?).toArray >>= _) _ _ _
  rw [pick_back]
  first
    | exact wpAny_bind (m := Builtin.Tuple.tupleExact _) (wpAny_newObj_type (wpAny_pure ⟨_, rfl, wpAny_pure h⟩) ok)
    | exact wpAny_bind (m := Builtin.Tuple.tupleExact _) (wpAny_newObj_type (wpAny_bind (wpAny_pure (wpAny_pure ⟨_, rfl, wpAny_pure h⟩))) ok)
    | exact wpAny_bind (wpAny_bind (m := Builtin.Tuple.tupleExact _) (wpAny_newObj_type (wpAny_pure (wpAny_pure ⟨_, rfl, wpAny_pure h⟩)) ok))
    | exact wpAny_bind (wpAny_bind (m := Builtin.Tuple.tupleExact _) (wpAny_newObj_type (wpAny_pure ⟨_, rfl, wpAny_pure h⟩) ok))
end
section
variable {X : Cx} {fa : FA} {Wx : WX} {e : Expr} {f : Den W}
def tRevT (K : PySem.W.Frag) (te : TE) : TE := fun sg H Q => te sg H fun v H1 => ∃ a xs, v = .ref a ∧ SqT K H1 a xs ∧ ∀ p, H1 p = none → Q (.ref p) (upd H1 p (.tup xs.reverse))
theorem pe_revT {te : TE} {k : Nat} {p1 p2 p3 pos : Pos} (he : PE X e te) : PE X (.Subscript e (.Slice none none (some (.UnaryOp .USub (.Constant (.int 1) k p1) p2)) p3) pos) (tRevT X.K te) := by
  refine ⟨fun pins s sg H Q I h => ?_⟩
  refine Subscript_ (thn (he.run pins s sg H _ I h) fun v s1 ⟨y, H1, I1, r1, a, xs, e1, hx, q⟩ => ?_)
  subst e1
  cases r1
  have hst : PO X (some (.UnaryOp .USub (.Constant (.int 1) k p1) p2)) (tPart (tUn (rU fun i => .int (-i)) (tC (.int 1)))) := po_some (pe_un un_neg pe_int)
  refine wpAny_Slice (thn (po_none.run pins s1 sg H1 (fun o H2 => o = none ∧ H2 = H1) I1 ⟨rfl, rfl⟩) fun vl s2 ⟨l, H2, I2, pl, el, e2⟩ => ?_)
  subst el e2
  refine thn (po_none.run pins s2 sg H2 (fun o H3 => o = none ∧ H3 = H2) I2 ⟨rfl, rfl⟩) fun vu s3 ⟨u, H3, I3, pu, eu, e3⟩ => ?_
  subst eu e3
  refine thn (hst.run pins s3 sg H3 (fun o H4 => o = some (-1) ∧ H4 = H3) I3 ⟨1, rfl, -1, rfl, rfl, rfl⟩) fun vs s4 ⟨o, H4, I4, ps, eo, e4⟩ => ?_
  subst eo e4
  have I5 : Inv X pins sg H4 { s4 with heap := s4.heap.push { cls := .type "slice", data := .fields #[vl, vu, vs] } } := I4.kept (t' := s4.toks) fun b ob q => Heap.get?_push_of_some _ q
  obtain ⟨its, r, ht, hz⟩ := I5.tuple hx
  show wpAny (model X.prog X.w) X.A (subscriptTail e (.Slice none none (some (.UnaryOp .USub (.Constant (.int 1) k p1) p2)) p3) (.ref a) (.ref s4.heap.objs.size)) (EP X pins sg Q) X.xe { s4 with heap := s4.heap.push { cls := .type "slice", data := .fields #[vl, vu, vs] } }
  refine tail_any (ops := [.ref a, .ref s4.heap.objs.size]) ht.typeIs PyProof.Rows.slot_tuple_getitem.lookup ?_ (by with_unfolding_all rfl)
  refine tuple_back ht (Heap.IsSliceOf.new _ vl vu vs) pl pu ps ?_ (by rw [← r.length]; exact hz)
  exact ⟨.ref _, _, I5.laid (t' := s4.toks) (o := .tup xs.reverse) (fun b ob q => Heap.get?_push_of_some _ q) (Nat.le_refl _) ⟨by rw [List.length_reverse]; exact hz, _, r.reverse, IsTup.new _ _⟩, rfl, q _ (I5.hok.fresh (Nat.le_refl _))⟩
def gRevT (w : W) (S : Stor) : Res W := match valD S w with
  | some (.tup xs) => .ok (.d (.tup xs.reverse)) S
  | _ => .bad
theorem de_revT {k : Nat} {p1 p2 p3 pos : Pos} (he : DE X fa Wx e f) : DE X fa Wx (.Subscript e (.Slice none none (some (.UnaryOp .USub (.Constant (.int 1) k p1) p2)) p3) pos) (dUn gRevT f) := by
  refine PE.imp (pe_revT he) fun sg H Q h => ?_
  show T X.K fa Wx (relW X.K fa) f sg H _
  refine T.one (r3 := relW X.K fa) (g := fun _ => gRevT) (fun _ _ _ q => q) (fun x m H1 S v a rho at_ ra q => ?_) h
  unfold gRevT at q
  split at q
  · rename_i xs ex
    obtain ⟨p, us, rfl, hp, rp⟩ := rep_tup at_.s ra ex
    exact ⟨p, us, rfl, hp, fun r hr => tup_use q at_.s rp.rev r hr⟩
  · exact q.elim
end
/-- a def whose function is known nowhere -/
theorem fn_bad {P : Program} {w : World} {K : PySem.W.Frag} {mg : Str → Option Value} {base : Heap} {fa : FA} {k n : Nat} {f : Addr} {fd : FuncData} {ps : List Str} (hn : ps.length = n) : FnOk P w K mg base (L2.CX P w) k f fd ps (spD K fa n fun _ _ => .bad) :=
  ⟨fun vs H Q E h => h.1.trans hn.symm, fun A outer s H args us vs Q E _ _ _ _ h => by
    obtain ⟨_, _, _, _, _, _, _, q⟩ := h
    exact (show False from q).elim⟩
end DL
/-! sets whose members are tuples of any depth -/
namespace DL
open PySem PySem.Spec PyProof.Rows L2
abbrev KAt (h : Heap) (p : Mb) : Prop := NestedIs h p.2 (.ref p.1) ∧ p.2.depth ≤ 8
section
variable {P : Program} {w : World} {A : Around} {E : Value → Shared → Prop} {s : Shared}
/-! ### members asked by themselves -/
mutual
theorem cls_key : ∀ (k : NestedKey) (v : Value) (n : Nat) (A : Around) (s : Shared) (Q : Bool → Shared → Prop), NestedIs s.heap k v → k.depth ≤ n → Q false s → wpAny (model P w) A (ofAClassStatement n v) Q E s
  | .none, _, n, A, s, Q, y, _, q => by cases y; cases n <;> exact wpAny_pure q
  | .num i, _, n, A, s, Q, y, _, q => by cases y <;> cases n <;> exact wpAny_pure q
  | .text x, _, n, A, s, Q, y, _, q => by cases y; cases n <;> exact wpAny_pure q
  | .tup ks, _, 0, A, s, Q, y, hn, q => by rw [NestedKey.depth] at hn; omega
  | .tup ks, _, n + 1, A, s, Q, y, hn, q => by
    cases y with
    | @tup b o vs c _ hb hc hd hall =>
      have ty : s.TypeIs (.ref b) "tuple" := ⟨o, hb, hc⟩
      rw [NestedKey.depth] at hn
      unfold ofAClassStatement
      refine wpAny_bind (wpAny_typeOf ty ?_)
      have yes : (("tuple" : String) == "tuple") = true := by decide
      simp only [yes, if_true]
      refine wpAny_bind (wpAny_pure ?_)
      simp only [Bool.not_true, Bool.false_eq_true, if_false]
      refine wpAny_bind (wpAny_seqItems hb hd ?_)
      refine wpAny_bind ?_
      rw [← Array.forIn_toList]
      exact cls_keys ks vs.toList n A s _ hall (by omega) (wpAny_pure q)
theorem cls_keys : ∀ (ks : List NestedKey) (vs : List Value) (n : Nat) (A : Around) (s : Shared) (R : Option Bool × PUnit → Shared → Prop), NestedAll s.heap ks vs → NestedKey.depthAll ks ≤ n → R (none, ⟨⟩) s →
    wpAny (model P w) A (forIn vs ((none, ⟨⟩) : Option Bool × PUnit) fun y _ => do
      if ← ofAClassStatement n y then pure (ForInStep.done (some true, ⟨⟩)) else pure (ForInStep.yield (none, ⟨⟩))) R E s
  | [], _, n, A, s, R, y, _, q => by cases y; exact wpAny_pure q
  | k :: ks, _, n, A, s, R, y, hn, q => by
    cases y with
    | cons h1 h2 =>
      rw [NestedKey.depthAll] at hn
      rw [List.forIn_cons]
      refine wpAny_bind (wpAny_bind (cls_key k _ n A s _ h1 (by omega) ?_))
      simp only [Bool.false_eq_true, if_false]
      exact wpAny_pure (cls_keys ks _ n A s R h2 (by omega) q)
end
mutual
theorem hby_key : ∀ (k : NestedKey) (v : Value) (n : Nat) (A : Around) (s : Shared) (Q : Bool → Shared → Prop), NestedIs s.heap k v → (∀ b, Q b s) → wpAny (model P w) A (hashByValue n v) Q E s
  | .none, _, n, A, s, Q, y, q => by cases y; cases n <;> exact wpAny_pure (q _)
  | .num i, _, n, A, s, Q, y, q => by cases y <;> cases n <;> exact wpAny_pure (q _)
  | .text x, _, n, A, s, Q, y, q => by cases y; cases n <;> exact wpAny_pure (q _)
  | .tup ks, _, 0, A, s, Q, y, q => by cases y; exact wpAny_pure (q _)
  | .tup ks, _, n + 1, A, s, Q, y, q => by
    cases y with
    | @tup b o vs c _ hb hc hd hall =>
      have ty : s.TypeIs (.ref b) "tuple" := ⟨o, hb, hc⟩
      unfold hashByValue
      refine wpAny_bind (wpAny_specialOf ty F.slot_tuple_hash.lookup ?_)
      show wpAny _ _ (seqItems? (.ref b) >>= _) _ _ s
      refine wpAny_bind (wpAny_seqItems hb hd ?_)
      refine wpAny_bind ?_
      show wpAny _ _ (forIn vs _ _) _ _ s
      rw [← Array.forIn_toList]
      exact hby_keys ks vs.toList n A s _ hall (wpAny_pure (q _)) (wpAny_pure (q _))
theorem hby_keys : ∀ (ks : List NestedKey) (vs : List Value) (n : Nat) (A : Around) (s : Shared) (R : Option Bool × PUnit → Shared → Prop), NestedAll s.heap ks vs → R (none, ⟨⟩) s → R (some false, ⟨⟩) s →
    wpAny (model P w) A (forIn vs ((none, ⟨⟩) : Option Bool × PUnit) fun y _ => do
      if !(← hashByValue n y) then pure (ForInStep.done (some false, ⟨⟩)) else pure (ForInStep.yield (none, ⟨⟩))) R E s
  | [], _, n, A, s, R, y, q, _ => by cases y; exact wpAny_pure q
  | k :: ks, _, n, A, s, R, y, q, q2 => by
    cases y with
    | cons h1 h2 =>
      rw [List.forIn_cons]
      refine wpAny_bind (wpAny_bind (hby_key k _ n A s _ h1 fun b => ?_))
      cases b
      · simp only [Bool.not_false, if_true]
        exact wpAny_pure (wpAny_pure q2)
      · simp only [Bool.not_true, Bool.false_eq_true, if_false]
        exact wpAny_pure (hby_keys ks _ n A s R h2 q q2)
end

/-! ### the search -/
/-- a search of x among ys can't be seen -/
theorem unseen {x : Mb} (hx : KAt s.heap x) {ys : List Value} {Q : Bool → Shared → Prop} (q : Q false s) (hy : ∀ y ∈ ys, ∃ p : Mb, y = .ref p.1 ∧ KAt s.heap p) : wpAny (model P w) A (searchCouldBeSeen (.ref x.1) ys) Q E s := by
  unfold searchCouldBeSeen
  refine wpAny_bind (wpAny_forIn_list _ (fun left r s' => s' = s ∧ r.1 = none ∧ ∀ y ∈ left, ∃ p : Mb, y = .ref p.1 ∧ KAt s.heap p) _ ?_ ?_ _ _ ⟨rfl, rfl, hy⟩)
  · rintro y left r s' ⟨rfl, hr, hall⟩
    obtain ⟨p, rfl, hp⟩ := hall _ List.mem_cons_self
    have later : s' = s' ∧ (none : Option Bool) = none ∧ ∀ z ∈ left, ∃ p : Mb, z = .ref p.1 ∧ KAt s'.heap p := ⟨rfl, rfl, fun z hz => hall z (List.mem_cons_of_mem _ hz)⟩
    dsimp only
    by_cases hv : (x.1 == p.1 || (carriedByValue (.ref x.1) && carriedByValue (.ref p.1))) = true
    · rw [if_pos hv]
      exact wpAny_pure later
    · rw [if_neg hv]
      refine wpAny_bind ((nestedKind P w).quiet hx (wp_if_neg (by decide) (wpAny_bind ((nestedKind P w).quiet hp (wp_if_neg (by decide) ?_)))))
      exact wpAny_bind (cls_key x.2 _ 8 _ _ _ hx.1 hx.2 (wp_if_neg (by decide) (wpAny_bind (cls_key p.2 _ 8 _ _ _ hp.1 hp.2 (wp_if_neg (by decide) (wpAny_pure later))))))
  · rintro ⟨r1, r2⟩ s' ⟨rfl, hr, _⟩
    obtain rfl : r1 = none := hr
    exact wpAny_pure q
variable {a : Addr} {L : List Mb} {es : Array (Int × Value)} {ep : Nat} {t : SetTable}
theorem rows_size (e : es.toList = L.map (krow w)) : es.size = L.length := by
  rw [← Array.length_toList, e, List.length_map]
theorem rows_get (e : es.toList = L.map (krow w)) {i : Nat} {p : Mb} (hp : L[i]? = some p) : es[i]? = some (krow w p) := by
  rw [← Array.getElem?_toList, e, List.getElem?_map, hp] <;> rfl
theorem KRaw.fits (R : KRaw w s.heap a L es ep t) : t.fits es.size = true := by
  have z := R.tab.sz
  rw [List.length_map] at z
  have r := R.room
  unfold SetTable.fits SetTable.fill
  rw [rows_size R.es, R.tab.dm, z, Bool.and_eq_true]
  refine ⟨beq_self_eq_true _, decide_eq_true ?_⟩
  show L.length + 0 ≤ t.mask
  omega
theorem KRaw.stands (R : KRaw w s.heap a L es ep t) : ¬ t.gaveWay = true := by
  unfold SetTable.gaveWay
  rw [mask_odd R.tab.mok] <;> decide
abbrev waySt (m : Nat) (h : Int) : SetTable.Probe := runAt m (SetTable.bits h % (m + 1)) (SetTable.bits h)
theorem way_dummy (m : Nat) (h : Int) : ∀ c, (nth m (waySt m h) c).dummy = none := by
  have adv0 : ∀ p : SetTable.Probe, p.dummy = none → (adv m p).dummy = none := fun p e => by
    unfold adv
    split <;> exact e
  intro c
  induction c with
  | zero => rfl
  | succ c ih => rw [nth_succ]; exact adv0 _ ih
theorem search_way (R : KRaw w s.heap a L es ep t) (hL : ∀ p ∈ L, KAt s.heap p) {x : Mb} (hx : KAt s.heap x) (hu : A.units + 8 < cLine) {n : Nat} (hn : n < 10 * SetTable.turns t.mask)
    (free : way t.mask (kh w x) n ∉ t.place.toList) (full : ∀ c, c < n → way t.mask (kh w x) c ∈ t.place.toList) {Q : SetFound → Shared → Prop}
    (q1 : x.2 ∈ L.map Prod.snd → Q (.there none) s) (q2 : x.2 ∉ L.map Prod.snd → Q (.free (way t.mask (kh w x) n) false) s) :
    ∀ (fuel c : Nat) (stand : Option SetTable.Probe), c ≤ n → n < c + fuel → stand.getD (t.probeStart (kh w x)) = nth t.mask (waySt t.mask (kh w x)) c →
      (∀ (i : Nat) (p : Mb), L[i]? = some p → p.2 = x.2 → ∃ d, c ≤ d ∧ d < n ∧ t.place.toList[i]? = some (way t.mask (kh w x) d)) →
      wpAny (model P w) A (setSearchFrom a (.ref x.1) (kh w x) true fuel stand) Q E s := by
  obtain ⟨o, ho, hex, hd⟩ := R.ob
  intro fuel
  induction fuel with
  | zero => intro c _ h1 h2 _ _; omega
  | succ fuel ih =>
    intro c stand hc hf hst ahead
    rw [setSearchFrom_succ]
    refine wpAny_bind (wpAny_setState_of ho hd R.fits ?_)
    refine wp_if_neg R.stands ?_
    have shift : ∀ d, nth t.mask (nth t.mask (waySt t.mask (kh w x)) c) d = nth t.mask (waySt t.mask (kh w x)) (c + d) := fun d => (nth_add ..).symm
    have spot : ∀ d, (nth t.mask (nth t.mask (waySt t.mask (kh w x)) c) d).j = way t.mask (kh w x) (c + d) := fun d => by rw [shift d]
    have hAt : ∀ {i : Nat} {p : Mb}, L[i]? = some p → (es[i]?.map (·.1)).getD 0 = kh w p := fun hp => by rw [rows_get R.es hp] <;> rfl
    have nc : c + (n - c) = n := by omega
    have told := go_spec t R.tab.ris R.tab.dm (fun i => (es[i]?.map (·.1)).getD 0) (kh w x) (10 * SetTable.turns t.mask) (n - c) (nth t.mask (waySt t.mask (kh w x)) c) (way_dummy ..) (by omega)
      (fun d hd => by rw [spot]; exact full _ (by omega)) (by rw [spot, nc]; exact free)
    rw [hst]
    rcases told with ⟨d, i, hd1, hi, _, first, e⟩ | ⟨none_, e⟩
    · rw [show t.probe (fun i => (es[i]?.map (·.1)).getD 0) (kh w x) (nth t.mask (waySt t.mask (kh w x)) c) = _ from e, spot, shift]
      rw [spot] at hi
      have hlt : i < L.length := by
        have z := R.tab.sz
        rw [List.length_map] at z
        have y := (List.getElem?_eq_some_iff.mp hi).1
        rw [Array.length_toList] at y
        omega
      obtain ⟨p, hp⟩ : ∃ p, L[i]? = some p := ⟨_, List.getElem?_eq_getElem hlt⟩
      have pin : p ∈ L := List.mem_of_getElem? hp
      have live := slot_live R.tab.ris hi
      have on : wpAny (model P w) A (searchRest a (.ref x.1) (kh w x) true fuel es t (way t.mask (kh w x) (c + d)) i (nth t.mask (waySt t.mask (kh w x)) (c + (d + 1)))) Q E s := by
        unfold searchRest
        rw [rows_get R.es hp]
        refine wpAny_bind (wpAny_holding ((nestedKind P w).eqBool hu (hL p pin) hx ?_))
        refine wpAny_bind (wpAny_setState_of ho hd R.fits ?_)
        dsimp only
        by_cases same : p.2 = x.2
        · refine wp_if_pos (by simp [same]) (wpAny_pure (q1 ?_))
          rw [← same]
          exact List.mem_map_of_mem pin
        · refine wp_if_neg (by simp [same]) ?_
          rw [sameMem]
          dsimp only
          simp only [if_true, live, rows_get R.es hp]
          refine wpAny_bind (wpAny_isSame_ref_self (wpAny_bind (wpAny_pure ?_)))
          simp only [if_true]
          refine wp_if_neg (by simp [same]) (ih (c + (d + 1)) _ (by omega) (by omega) rfl fun j r hr er => ?_)
          obtain ⟨b, b1, b2, b3⟩ := ahead j r hr er
          refine ⟨b, ?_, b2, b3⟩
          by_cases lt : b < c + d
          · refine absurd (hAt hr) (fun _ => ?_)
            exact first (b - c) j (by omega) (by rw [spot, show c + (b - c) = b by omega]; exact b3) ((hAt hr).trans (by rw [kh, er]))
          · by_cases eq : b = c + d
            · subst eq
              have two := slot_live R.tab.ris b3
              rw [live] at two
              cases two
              rw [hp] at hr
              cases hr
              exact absurd er same
            · omega
      dsimp only
      by_cases led : t.led = true
      · exact wp_if_neg (by simp [led]) on
      · refine wp_if_pos (by simp [led]) (wpAny_bind (unseen hx (wp_if_neg (by decide) on) fun y hy => ?_))
        obtain ⟨⟨h0, v0⟩, hm, rfl⟩ := List.mem_map.mp hy
        have hm2 : (h0, v0) ∈ es.toList := by
          have z : (h0, v0) ∈ es ∧ h0 = kh w x := by simpa using hm
          simpa using z.1
        rw [R.es] at hm2
        obtain ⟨p, pin, e⟩ := List.mem_map.mp hm2
        cases e
        exact ⟨p, rfl, hL p pin⟩
    · rw [show t.probe (fun i => (es[i]?.map (·.1)).getD 0) (kh w x) (nth t.mask (waySt t.mask (kh w x)) c) = _ from e, spot, nc]
      refine wpAny_pure (q2 fun mem => ?_)
      obtain ⟨p, pin, e2⟩ := List.mem_map.mp mem
      obtain ⟨i, hi⟩ := List.getElem?_of_mem pin
      obtain ⟨b, b1, b2, b3⟩ := ahead i p hi e2
      exact none_ (b - c) i (by omega) (by rw [spot, show c + (b - c) = b by omega]; exact b3) ((hAt hi).trans (by rw [kh, e2]))
theorem search_add (R : KRaw w s.heap a L es ep t) (hL : ∀ p ∈ L, KAt s.heap p) {x : Mb} (hx : KAt s.heap x) (hu : A.units + 8 < cLine) {Q : SetFound → Shared → Prop} (q1 : x.2 ∈ L.map Prod.snd → Q (.there none) s)
    (q2 : ∀ n, x.2 ∉ L.map Prod.snd → way t.mask (kh w x) n ∉ t.place.toList → (∀ c, c < n → way t.mask (kh w x) c ∈ t.place.toList) → Q (.free (way t.mask (kh w x) n) false) s) :
    wpAny (model P w) A (setSearch a (.ref x.1) (kh w x) true) Q E s := by
  have rm := R.room
  have z := R.tab.sz
  rw [List.length_map] at z
  obtain ⟨n, hn, free, full⟩ := R.tab.first (by rw [List.length_map]; omega) (kh w x)
  have bound : 10 * SetTable.turns t.mask ≤ 1420 := by
    unfold SetTable.turns
    rcases R.tab.mok with e | e | e <;> omega
  unfold setSearch
  refine search_way R hL hx hu hn free full q1 (fun out => q2 n out free full) 100000 0 none (Nat.zero_le _) (by omega) rfl fun i p hp e => ?_
  have y : i < t.place.toList.length := by
    have := (List.getElem?_eq_some_iff.mp hp).1
    rw [Array.length_toList]
    omega
  obtain ⟨d, d1, d2⟩ := R.tab.before free (show (L.map (kh w))[i]? = some (kh w x) by rw [List.getElem?_map, hp, Option.map_some, kh, e]) (List.getElem?_eq_getElem y)
  exact ⟨d, Nat.zero_le _, d1, by rw [d2]; exact List.getElem?_eq_getElem y⟩
end
end DL
namespace DL
open PySem PySem.Spec PyProof.Rows L2
section
variable {P : Program} {w : World} {A : Around} {E : Value → Shared → Prop} {s : Shared} {a : Addr} {L : List Mb} {es : Array (Int × Value)} {ep : Nat} {t : SetTable}
theorem kat_same {h h' : Heap} {o : Obj} {p : Mb} (k : KAt h p) (ho : h.get? a = some o) (hd : o.data = .set es ep t) (sb : Heap.SameBut a h h') : KAt h' p := by
  refine ⟨NestedIs.at (fun b u vs n hb hu => ?_) _ _ k.1, k.2⟩
  by_cases e : b = a
  · subst e
    rw [ho] at hb
    cases hb
    rw [hd] at hu
    cases hu
  · exact (sb.2 b e).trans hb
theorem kat_keep {h h' : Heap} {p : Mb} (k : KAt h p) (keep : ∀ b u, h.get? b = some u → h'.get? b = some u) : KAt h' p := ⟨NestedIs.at (fun b u _ _ hb _ => keep b u hb) _ _ k.1, k.2⟩
/-- rows picked by their numbers -/
theorem rows_pick (e : es.toList = L.map (krow w)) : ∀ ns : List Nat, (∀ i ∈ ns, i < L.length) → ns.filterMap (fun i => es[i]?) = (ns.filterMap fun i => L[i]?).map (krow w) ∧
    ((ns.filterMap fun i => L[i]?).map (kh w)) = ns.map fun i => (es.map (·.1)).getD i 0
  | [], _ => ⟨rfl, rfl⟩
  | i :: ns, h => by
    have hi : i < L.length := h i List.mem_cons_self
    obtain ⟨p, hp⟩ : ∃ p, L[i]? = some p := ⟨_, List.getElem?_eq_getElem hi⟩
    have g := rows_get e hp
    obtain ⟨r1, r2⟩ := rows_pick e ns fun j hj => h j (List.mem_cons_of_mem _ hj)
    have hd : (es.map (·.1)).getD i 0 = kh w p := by
      have : (es.map (·.1))[i]? = some (kh w p) := by rw [Array.getElem?_map, g] <;> rfl
      simp [Array.getD_eq_getD_getElem?, this]
    rw [List.filterMap_cons_some g, List.filterMap_cons_some hp, r1, List.map_cons, List.map_cons, List.map_cons, r2, hd]
    exact ⟨rfl, rfl⟩
theorem pick_all {α : Type} (l : List α) : ((List.range l.length).filterMap fun i => l[i]?) = l := by
  induction l with
  | nil => rfl
  | cons x l ih =>
    rw [List.length_cons, List.range_succ_eq_map, List.filterMap_cons_some (a := 0) (b := x) rfl, List.filterMap_map]
    exact congrArg (x :: ·) ih
/-- the table's words after a change: what is needed to store them -/
structure KNew (w : World) (L : List Mb) (es : Array (Int × Value)) (t : SetTable) : Prop where
  es : es.toList = L.map (krow w)
  tab : TabOk t (L.map (kh w))
  nd : (L.map Prod.snd).Nodup
  led : w.params.followText "set-order" = true ∨ t.led = true
  few : L.length < 64
theorem KNew.stored {o : Obj} {h : Heap} {es0 : Array (Int × Value)} {t0 : SetTable} (N : KNew w L es t) (ho : h.get? a = some o) (hex : o.ExactSet) (hd : o.data = .set es0 ep t0) (room : L.length * 5 < t.mask * 3) :
    KRaw w (h.update a (Obj.putSet es t)) a L es (ep + 1) t :=
  ⟨⟨_, store_at ho hd, ⟨hex.1, hex.2.1, hex.2.2⟩, rfl⟩, N.es, N.tab, N.nd, N.led, room, N.few⟩
theorem relay_keys {o : Obj} (N : KNew w L es t) (ho : s.heap.get? a = some o) (hex : o.ExactSet) (hd : o.data = .set es ep t) (fl : L.length ≤ t.mask) {wanted M : Nat} (hw : SetTable.sizeAbove wanted - 1 = M) (hM : MaskOk M)
    (hs : SetTable.sizeAbove wanted ≤ 128) (hr : L.length * 5 < M * 3) {Q : Unit → Shared → Prop} (q : ∀ h' L' es' ep' t', Heap.SameBut a s.heap h' → KRaw w h' a L' es' ep' t' → L'.Perm L → Q () { s with heap := h' }) :
    wpAny (model P w) A (setRelay a wanted) Q E s := by
  have sz := rows_size N.es
  have tz := N.tab.sz
  rw [List.length_map] at tz
  have fits : t.fits es.size = true := by
    unfold SetTable.fits SetTable.fill
    rw [sz, N.tab.dm, tz, Bool.and_eq_true]
    refine ⟨beq_self_eq_true _, decide_eq_true ?_⟩
    show L.length + 0 ≤ t.mask
    exact fl
  obtain ⟨t2, ord, e, pm, tab2, m2, l2, _, _⟩ := relaid_ok t (hs := es.map (·.1)) (wanted := wanted) hw hM (by rw [Array.size_map, sz]; omega)
  rw [Array.size_map, sz] at pm
  obtain ⟨r1, r2⟩ := rows_pick N.es ord.toList fun i hi => List.mem_range.mp (pm.mem_iff.mp hi)
  have pL : (ord.toList.filterMap fun i => L[i]?).Perm L := by
    have z := pm.filterMap (fun i => L[i]?)
    rw [pick_all] at z
    exact z
  rw [← r2] at tab2
  have r3 : (ord.filterMap (es[·]?)).toList = (ord.toList.filterMap fun i => L[i]?).map (krow w) := by
    rw [Array.toList_filterMap]
    exact r1
  generalize ord.toList.filterMap (fun i => L[i]?) = L2 at r3 tab2 pL
  have sz2 : (ord.filterMap (es[·]?)).size = L.length := by rw [rows_size r3, pL.length_eq]
  rw [setRelay_eq]
  refine wpAny_bind (wpAny_setState_of ho hd fits (wp_if_neg (by rw [sizeLine_eq]; omega) ?_))
  rw [e]
  refine wpAny_bind (wp_if_neg (by rw [sz2, sz]; simp) (wpAny_pure ?_))
  have N2 : KNew w L2 (ord.filterMap (es[·]?)) t2 := ⟨r3, tab2, (pL.map _).nodup_iff.mpr N.nd, by rw [l2]; exact N.led, by rw [pL.length_eq]; exact N.few⟩
  exact wpAny_storeSet_of ho hd (q _ L2 _ (ep + 1) t2 (Heap.SameBut.update ..) (N2.stored ho hex hd (by rw [pL.length_eq, m2]; exact hr)) pL) (by rw [sz2, sizeLine_eq]; have := N.few; omega)
/-- one more -/
theorem add_key (R : KRaw w s.heap a L es ep t) (hL : ∀ p ∈ L, KAt s.heap p) {x : Mb} (hx : KAt s.heap x) (hu : A.units + 8 < cLine) (few : L.length + 1 < 64) {Q : Bool → Shared → Prop}
    (q : ∀ b h' L' es' ep' t', Heap.SameBut a s.heap h' → KRaw w h' a L' es' ep' t' → (∀ p ∈ L', KAt h' p) → (x.2 ∈ L.map Prod.snd → L' = L) → (x.2 ∉ L.map Prod.snd → L'.Perm (x :: L)) → Q b { s with heap := h' }) :
    wpAny (model P w) A (setAddHashed a (.ref x.1) (kh w x)) Q E s := by
  obtain ⟨o, ho, hex, hd⟩ := R.ob
  have sz := rows_size R.es
  have room := R.room
  unfold setAddHashed
  refine wpAny_holding ?_
  rw [show (100000 : Nat) = 99999 + 1 from rfl, setAddHashedIn_succ]
  refine wpAny_bind (wpAny_setState_of ho hd R.fits (wp_if_neg (by simp [byScan, Value.scannable]) ?_))
  refine wpAny_bind (search_add R hL hx hu (fun mem => wpAny_pure (q false s.heap L es ep t (Heap.SameBut.refl a s.heap) R hL (fun _ => rfl) fun z => absurd mem z)) fun n out free full => ?_)
  refine wpAny_bind (wpAny_setState_of ho hd R.fits ?_)
  obtain ⟨at_, le, tab1, m1, l1, _, _, _, f1⟩ := R.tab.put free full
  rw [List.length_map] at f1
  rw [at_.symm] at tab1 le
  dsimp only
  generalize t.put (way t.mask (kh w x) n) = pt at *
  obtain ⟨t1, i⟩ := pt
  dsimp only at *
  rw [List.length_map] at le
  have pm : (L.take i ++ x :: L.drop i).Perm (x :: L) := by
    have z : (L.take i ++ x :: L.drop i).Perm (x :: (L.take i ++ L.drop i)) := List.perm_middle
    rwa [List.take_append_drop] at z
  have rows1 : (SetTable.insertAt es i (kh w x, .ref x.1)).toList = (L.take i ++ x :: L.drop i).map (krow w) := by
    rw [SetTable.toList_insertAt, R.es, List.map_append, List.map_cons, List.map_take, List.map_drop]
  have tab2 : TabOk t1 ((L.take i ++ x :: L.drop i).map (kh w)) := by
    rw [List.map_append, List.map_cons, List.map_take, List.map_drop]
    exact tab1
  have nd2 : ((L.take i ++ x :: L.drop i).map Prod.snd).Nodup := (pm.map _).nodup_iff.mpr (List.nodup_cons.mpr ⟨out, R.nd⟩)
  generalize SetTable.insertAt es i (kh w x, .ref x.1) = es1 at rows1 ⊢
  generalize L.take i ++ x :: L.drop i = L1 at rows1 tab2 nd2 pm
  have len1 : L1.length = L.length + 1 := pm.length_eq
  have rest : ∀ t2 : SetTable, t2.mask = t.mask → t2.led = t.led → TabOk t2 (L1.map (kh w)) → t2.fill = L.length + 1 →
      wpAny (model P w) A (do
        storeSet a es1 t2
        if !false && t2.tooFull then setRelay a (SetTable.grown (es.size + 1))
        return true) Q E s := fun t2 hm hl tabt fill => by
    have N : KNew w L1 es1 t2 := ⟨rows1, tabt, nd2, by rw [hl]; exact R.led, by rw [len1]; exact few⟩
    refine wpAny_bind (wpAny_storeSet_of ho hd ?_ (by rw [rows_size rows1, len1, sizeLine_eq]; omega))
    have sb : Heap.SameBut a s.heap (s.heap.update a (Obj.putSet es1 t2)) := Heap.SameBut.update ..
    have mem1 : ∀ p ∈ L1, KAt (s.heap.update a (Obj.putSet es1 t2)) p := fun p hp => by
      rcases List.mem_cons.mp (pm.mem_iff.mp hp) with rfl | hp
      · exact kat_same hx ho hd sb
      · exact kat_same (hL p hp) ho hd sb
    by_cases full : t2.tooFull = true
    · refine wp_if_pos (by simp [full]) (wpAny_bind ?_)
      have over : (L.length + 1) * 5 ≥ t.mask * 3 := by
        unfold SetTable.tooFull at full
        rw [decide_eq_true_eq, fill, hm] at full
        exact full
      have one : (t.mask = 7 ∧ L.length = 4) ∨ (t.mask = 31 ∧ L.length = 18) := by
        rcases R.tab.mok with e | e | e <;> rw [e] at over room
        · exact .inl ⟨e, by omega⟩
        · exact .inr ⟨e, by omega⟩
        · omega
      have ho1 := store_at (es' := es1) (t' := t2) ho hd
      have go : ∀ M, SetTable.sizeAbove (SetTable.grown (es.size + 1)) - 1 = M → MaskOk M → SetTable.sizeAbove (SetTable.grown (es.size + 1)) ≤ 128 → (L.length + 1) * 5 < M * 3 →
          wpAny (model P w) A (setRelay a (SetTable.grown (es.size + 1))) (fun _ s' => wpAny (model P w) A (pure true) Q E s') E { s with heap := s.heap.update a (Obj.putSet es1 t2) } := fun M g1 g2 g3 g4 =>
        relay_keys (s := { s with heap := s.heap.update a (Obj.putSet es1 t2) }) N ho1 ⟨hex.1, hex.2.1, hex.2.2⟩ rfl (by rw [len1, hm]; rcases one with ⟨e, e2⟩ | ⟨e, e2⟩ <;> omega) g1 g2 g3 (by rw [len1]; exact g4)
          fun h' L' es' ep' t' sb' R' pm' => wpAny_pure (q true h' L' es' ep' t' (sb.trans sb') R' (fun p hp => kat_same (mem1 p (pm'.mem_iff.mp hp)) ho1 rfl sb') (fun z => absurd z out) fun _ => pm'.trans pm)
      rcases one with ⟨_, e⟩ | ⟨_, e⟩
      · have : SetTable.sizeAbove (SetTable.grown (es.size + 1)) = 32 := by rw [sz, e]; exact size_20
        exact go 31 (by rw [this]) (.inr (.inl rfl)) (by rw [this]; decide) (by omega)
      · have : SetTable.sizeAbove (SetTable.grown (es.size + 1)) = 128 := by rw [sz, e]; exact size_76
        exact go 127 (by rw [this]) (.inr (.inr rfl)) (by rw [this]; decide) (by omega)
    · refine wp_if_neg (by simp [full]) (wpAny_pure ?_)
      refine q true _ L1 es1 (ep + 1) t2 sb (N.stored ho hex hd ?_) mem1 (fun z => absurd z out) fun _ => pm
      unfold SetTable.tooFull at full
      rw [decide_eq_true_eq, fill] at full
      rw [len1]
      omega
  have both : ∀ b : Bool, wpAny (model P w) A (do
        storeSet a es1 (if b = true then t1 else { t1 with plain := false })
        if !false && (if b = true then t1 else { t1 with plain := false }).tooFull then setRelay a (SetTable.grown (es.size + 1))
        return true) Q E s := fun b => by
    cases b with
    | true => exact rest t1 m1 l1 tab2 f1
    | false => exact rest { t1 with plain := false } m1 l1 ⟨tab2.ris, tab2.dm, tab2.sz, tab2.mok, tab2.bd, tab2.reach⟩ f1
  by_cases pl : t1.plain = true
  · exact wp_if_pos pl (wpAny_bind (hby_key x.2 _ 8 _ _ _ hx.1 fun b => both b))
  · exact wp_if_neg pl (wpAny_bind (wpAny_pure (both true)))
end
end DL
namespace DL
open PySem PySem.Spec PyProof.Rows L2
/-- one more member, if it is new -/
def addM (L : List Mb) (x : Mb) : List Mb := if x.2 ∈ L.map Prod.snd then L else L ++ [x]
theorem addM_perm {L L' M : List Mb} {x : Mb} (h : L.Perm M) (c1 : x.2 ∈ L.map Prod.snd → L' = L) (c2 : x.2 ∉ L.map Prod.snd → L'.Perm (x :: L)) : L'.Perm (addM M x) := by
  unfold addM
  by_cases e : x.2 ∈ M.map Prod.snd
  · rw [if_pos e, c1 ((h.map _).mem_iff.mpr e)]
    exact h
  · rw [if_neg e]
    exact ((c2 fun z => e ((h.map _).mem_iff.mp z)).trans (h.cons x)).trans (List.perm_append_comm (l₁ := [x]) (l₂ := M))
theorem addM_len (L : List Mb) (x : Mb) : (addM L x).length ≤ L.length + 1 := by
  unfold addM
  split
  · omega
  · rw [List.length_append] <;> simp
theorem adds_len (ks : List Mb) : ∀ L : List Mb, (ks.foldl addM L).length ≤ L.length + ks.length := by
  induction ks with
  | nil => intro L; simp
  | cons x ks ih =>
    intro L
    rw [List.foldl_cons, List.length_cons]
    exact Nat.le_trans (ih _) (by have := addM_len L x; omega)
theorem adds_mem (ks : List Mb) : ∀ (L : List Mb) (p : Mb), p ∈ ks.foldl addM L → p ∈ L ∨ p ∈ ks := by
  induction ks with
  | nil => intro L p h; exact .inl h
  | cons x ks ih =>
    intro L p h
    rw [List.foldl_cons] at h
    rcases ih _ p h with h | h
    · unfold addM at h
      split at h
      · exact .inl h
      · rcases List.mem_append.mp h with h | h
        · exact .inl h
        · exact .inr (by rw [List.mem_singleton.mp h]; exact List.mem_cons_self)
    · exact .inr (List.mem_cons_of_mem _ h)
abbrev freshSet (w : World) : Obj := { cls := .type "set", dict := none, data := .set #[] 0 (.fresh 0 0 (!w.params.followText "set-order")) }
section
variable {P : Program} {w : World} {A : Around} {E : Value → Shared → Prop} {s : Shared} {a : Addr} {L : List Mb} {es : Array (Int × Value)} {ep : Nat} {t : SetTable}
theorem kraw_new {h : Heap} (ho : h.get? a = some (freshSet w)) : KRaw w h a [] #[] 0 (.fresh 0 0 (!w.params.followText "set-order")) where
  ob := ⟨_, ho, ⟨rfl, rfl, rfl⟩, rfl⟩
  es := rfl
  tab := ⟨.nil, rfl, rfl, .inl rfl, fun _ z => absurd z (by simp [SetTable.fresh]), fun i _ _ z => absurd z (by simp)⟩
  nd := .nil
  led := by
    show _ ∨ (!w.params.followText "set-order") = true
    cases w.params.followText "set-order" <;> simp
  room := by
    show 0 * 5 < 7 * 3
    omega
  few := by
    show 0 < 64
    omega
theorem KRaw.keep {h h' : Heap} (R : KRaw w h a L es ep t) (k : ∀ o, h.get? a = some o → h'.get? a = some o) : KRaw w h' a L es ep t := by
  obtain ⟨o, ho, r⟩ := R.ob
  exact ⟨⟨o, k o ho, r⟩, R.es, R.tab, R.nd, R.led, R.room, R.few⟩
/-- the loop of set(xs) -/
theorem loop_keys {I : Addr} {fp wr : List Addr} {n : Nat} {Pv : Nat → Value → Prop} {St : Nat → Shared → Prop} {R : Result → Shared → Prop} (W : WalksS P w A.in1 I fp wr (fun a b => b = a) n Pv St) {S : Addr} (hS : S ∉ fp) {ks : List Mb} (hn : n = ks.length)
    (few : ks.length < 64) (val : ∀ i v, Pv i v → ∃ p : Mb, ks[i]? = some p ∧ v = .ref p.1) {h0 : Heap} (hk : ∀ p ∈ ks, KAt h0 p) (s0 : h0.get? S = none) (w0 : ∀ b ∈ wr, h0.get? b = none) (hu : A.in1.units + 8 < cLine) :
    ∀ (k i : Nat) (s : Shared), i + k = n → St i s → (∀ b o, h0.get? b = some o → s.heap.get? b = some o) → (∃ L es ep t, KRaw w s.heap S L es ep t ∧ L.Perm ((ks.take i).foldl addM [])) →
      (∀ s' L es ep t, Moved (S :: wr) (fun a b => b = a) s s' → (∀ b o, h0.get? b = some o → s'.heap.get? b = some o) → KRaw w s'.heap S L es ep t → L.Perm (ks.foldl addM []) → R (.ok (.ret .none)) s') →
      codeAny (model P w) A (.builtin "set.update.loop" ⟨[.ref S, .ref I], []⟩) R s := by
  have out : S ∉ wr := fun z => hS (W.sub _ z)
  have wide : ∀ b ∈ wr, b ∈ S :: wr := fun _ z => List.mem_cons_of_mem _ z
  have stay : ∀ {s s' : Shared}, Moved wr (fun a b => b = a) s s' → (∀ b o, h0.get? b = some o → s.heap.get? b = some o) → ∀ b o, h0.get? b = some o → s'.heap.get? b = some o := fun m k b o e =>
    m.heap b o (fun z => by have := w0 b z; rw [e] at this; cases this) (k b o e)
  intro k
  induction k with
  | zero =>
    intro i s hi st keep ⟨L, es, ep, t, hR, pm⟩ q
    obtain rfl : i = n := by omega
    refine codeAny_builtin F.entry_set_update_loop ?_
    rw [Around.under_plainId F.plain_set_update_loop _]
    show wpAny _ _ (pyNext (.ref I) >>= _) _ _ s
    refine wpAny_bind (W.done s _ _ st fun s' m => ?_)
    rw [hn, List.take_length] at pm
    exact wpAny_pure (q s' L es ep t (m.mono wide) (stay m keep) (hR.keep fun o e => m.heap S o out e) pm)
  | succ k ih =>
    intro i s hi st keep ⟨L, es, ep, t, hR, pm⟩ q
    refine codeAny_builtin F.entry_set_update_loop ?_
    rw [Around.under_plainId F.plain_set_update_loop _]
    show wpAny _ _ (pyNext (.ref I) >>= _) _ _ s
    refine wpAny_bind (W.item i s _ _ (by omega) st fun v s' pv st' m => ?_)
    obtain ⟨p, hp, rfl⟩ := val i v pv
    have keep' := stay m keep
    have mem : ∀ r ∈ L, r ∈ ks := fun r hr => by
      rcases adds_mem _ _ _ (pm.mem_iff.mp hr) with z | z
      · cases z
      · exact List.mem_of_mem_take z
    have here : ∀ r ∈ ks, KAt s'.heap r := fun r hr => kat_keep (hk r hr) keep'
    have hx := here p (List.mem_of_getElem? hp)
    have size : L.length + 1 < 64 := by
      have z := adds_len (ks.take i) []
      rw [← pm.length_eq, List.length_take] at z
      have : i < ks.length := by omega
      simp only [List.length_nil] at z
      omega
    show wpAny _ _ (holding [Value.ref p.1] (setAdd S (.ref p.1)) >>= _) _ _ s'
    refine wpAny_bind (wpAny_holding ?_)
    unfold setAdd
    refine wpAny_holding (wpAny_bind ((nestedKind P w).pyHash hu hx ?_))
    refine add_key (s := { s' with toks := s'.toks + p.2.draws }) (hR.keep fun o e => m.heap S o out e) (fun r hr => here r (mem r hr)) hx hu size fun b h' L' es' ep' t' sb R' _ c1 c2 => ?_
    have off : ∀ c, c ≠ S → ∀ o, s'.heap.get? c = some o → h'.get? c = some o := fun c hc o e => (sb.2 c hc).trans e
    refine wpAny_pure ⟨plainId_quiet F.plain_set_update_loop _, ih (i + 1) _ (by omega) (W.frame _ s' _ _ st' (Nat.le_add_right _ _) fun c hc o e => off c (fun z => hS (z ▸ hc)) o e)
      (fun c o e => off c (fun z => by rw [z, s0] at e; cases e) o (keep' c o e)) ⟨L', es', ep', t', R', ?_⟩ fun s'' L2 es2 ep2 t2 m2 k2 R2 pm2 => ?_⟩
    · have : ks.take (i + 1) = ks.take i ++ [p] := by rw [List.take_add_one, hp] <;> rfl
      rw [this, List.foldl_append]
      exact addM_perm pm c1 c2
    · refine q s'' L2 es2 ep2 t2 (Moved.trans W.gtrans ((m.mono wide).then_heap (Nat.le_add_right _ _) fun c o hc e => off c (fun z => hc (z ▸ List.mem_cons_self)) o e) m2) k2 R2 pm2
end
end DL
namespace DL
open PySem PySem.Spec PyProof.Rows L2
section
variable {P : Program} {w : World} {A : Around} {E : Value → Shared → Prop} {s : Shared}
/-- set(xs): T the class of xs, its iterator known -/
theorem set_from {l : Addr} {T : String} {items : Array Value} {o : Obj} {n : Nat} {ks : List Mb} {Q : Value → Shared → Prop} (hh : A.handled = none) (ho : s.heap.get? l = some o) (hc : o.cls = .type T) (hd : o.data = .seq items n)
    (t1 : isSubtype (.type T) (.type "set") = pure false) (t2 : isSubtype (.type T) (.type "frozenset") = pure false) (t3 : (Value.type T == Value.type "dict") = false)
    (it : ∀ (B C : Around) (s1 : Shared) (E' : Value → Shared → Prop) (R : Value → Shared → Prop), B.handled = none → s1.heap.get? l = some o → (∀ (s2 : Shared) (ob : Obj) (St : Nat → Shared → Prop), s2 = { s1 with heap := s1.heap.push ob } →
      WalksS P w B s1.heap.objs.size [s1.heap.objs.size, l] [s1.heap.objs.size] (fun a b => b = a) items.size (fun i v => items[i]? = some v) St → St 0 s2 → R (.ref s1.heap.objs.size) s2) → wpAny (model P w) C (pyIter (.ref l)) R E' s1)
    (vals : items.toList = ks.map fun p => Value.ref p.1) (hk : ∀ p ∈ ks, KAt s.heap p) (few : ks.length < 64) (hu : A.units + 64 < cLine)
    (q : ∀ h' tk L es ep t, KRaw w h' s.heap.objs.size L es ep t → L.Perm (ks.foldl addM []) → (∀ b o, s.heap.get? b = some o → h'.get? b = some o) → Q (.ref s.heap.objs.size) { s with heap := h', toks := tk }) :
    wpAny (model P w) A (call (.type "set") [.ref l]) Q E s := by
  have cnt : items.size = ks.length := by rw [← Array.length_toList, vals, List.length_map]
  obtain ⟨c0, tl, hmro⟩ := F.called_set.mro
  have m1 := F.called_set.made
  have m2 := F.called_set.sub
  refine wpAny_call (codeAny_of_tree ?_)
  show wpAny _ _ (callAny (.type "set") _) _ _ _
  refine wpAny_pure ⟨Code.quiet_builtin _ (by decide +kernel), codeAny_builtin F.entry_type_call ?_⟩
  rw [Around.under_plain (weight_type_call_type "set" [.ref l] []) rfl]
  have m3 := F.called_set.notType
  have m4 := F.called_set.canCreate
  have m5 := F.typeCall_set_1 (.ref l)
  repeat (any_goals (first | assumption | wp_step))
  refine codeAny_mono (code_set_led1 (.ref l) (E := E) (Q₁ := fun v s1 => v = .ref s.heap.objs.size ∧ s1 = { s with heap := s.heap.push (freshSet w) }) ⟨rfl, rfl⟩) fun r s1 hr => ?_
  match r, hr with
  | .error e, hr => exact hr
  | .ok .next, hr => exact hr.elim
  | .ok .brk, hr => exact hr.elim
  | .ok .cont, hr => exact hr.elim
  | .ok (.ret v), ⟨e1, e2⟩ =>
    subst e1 e2
    have new : (s.heap.push (freshSet w)).get? s.heap.objs.size = some (freshSet w) := Heap.get?_push_size _ rfl
    have ty : Shared.TypeIs { s with heap := s.heap.push (freshSet w) } (.ref s.heap.objs.size) "set" := ⟨_, new, rfl⟩
    have i1 := F.called_set.init.lookup
    have i2 := F.called_set.init.bind (.ref s.heap.objs.size)
    repeat (any_goals (first | assumption | wp_step))
    refine codeAny_mono (codeAny_call_builtin (R := wants (fun r s2 => r = .none ∧ ∃ h' tk L es ep t, s2 = { s with heap := h', toks := tk } ∧ KRaw w h' s.heap.objs.size L es ep t ∧ L.Perm (ks.foldl addM []) ∧ (∀ b o, s.heap.get? b = some o → h'.get? b = some o)) E)
      F.called_set.init.plain F.entry_set_init (check_set_init_1 ty ?_)) fun r2 s2 hr2 => ?_
    · obtain ⟨oc, od, oa, os⟩ := o
      dsimp only at hc hd
      subst hc hd
      have ho1 : (s.heap.push (freshSet w)).get? l = some ⟨.type T, od, .seq items n, os⟩ := Heap.get?_push_of_some _ ho
      unfold Builtin.«set.__init__» noKeywords Builtin.Frozenset.updateFrom
      generalize hPI : pyIter = PI
      wp_walk
      subst hPI
      refine it A.in1.in1.in1 _ _ _ _ (by simp [hh]) ho1 fun s2 ob St e2 W st0 => ?_
      subst e2
      refine wpAny_bind (wpAny_runValue ?_)
      have lt : l < s.heap.objs.size := Heap.lt_size ho
      have away : s.heap.objs.size ∉ [(s.heap.push (freshSet w)).objs.size, l] := by
        rw [Heap.size_push]
        simp only [List.mem_cons, List.not_mem_nil, or_false, not_or]
        exact ⟨Nat.ne_of_lt (Nat.lt_succ_self _), Nat.ne_of_gt lt⟩
      have no : ∀ b, s.heap.objs.size ≤ b → s.heap.get? b = none := fun b hb => by
        cases e : s.heap.get? b with
        | none => rfl
        | some u => exact absurd (Heap.lt_size e) (Nat.not_lt.mpr hb)
      refine loop_keys W away cnt few (fun i v hv => ?_) hk (no _ (Nat.le_refl _)) (fun b hb => no b (by rw [List.mem_singleton.mp hb, Heap.size_push]; omega)) (by simp only [Around.in1_units]; omega) items.size 0 _ (by omega) st0
        (fun b u e => Heap.get?_push_of_some _ (Heap.get?_push_of_some _ e)) ⟨[], _, _, _, kraw_new (Heap.get?_push_of_some _ new), .refl _⟩ fun s' L es ep t m keep R pm => ?_
      · have z : items.toList[i]? = some v := by rw [Array.getElem?_toList]; exact hv
        rw [vals, List.getElem?_map] at z
        cases e : ks[i]? with
        | none => rw [e] at z; cases z
        | some p => rw [e] at z; exact ⟨p, rfl, (Option.some.inj z).symm⟩
      · obtain ⟨h', g2, d2, k2, o2⟩ := s'
        obtain rfl : g2 = s.gens := m.gens
        obtain rfl : d2 = s.drawn := m.drawn
        obtain rfl : o2 = s.os := m.os
        show wpAny _ _ _ _ _ _
        refine wpAny_pure ?_
        show wpAny _ _ (ret Value.none) _ _ _
        exact wpAny_pure ⟨rfl, h', k2, L, es, ep, t, rfl, R, pm, keep⟩
    · match r2, hr2 with
      | .error e, hr2 => exact hr2
      | .ok .next, hr2 => exact hr2.elim
      | .ok .brk, hr2 => exact hr2.elim
      | .ok .cont, hr2 => exact hr2.elim
      | .ok (.ret v2), hr2 =>
        obtain ⟨e1, h', tk, L, es, ep, t, e2, R, pm, keep⟩ := hr2
        subst e1 e2
        repeat (any_goals (first | assumption | wp_step))
        exact q _ _ _ _ _ _ R pm keep
end
end DL
namespace DL
open PySem PySem.Spec PyProof.Rows L2
/-! ### members read -/
section
variable {X : Cx} {fa : FA} {pins : List (Addr × Obj)} {sg : L2.St} {H : Hp} {s : Shared}
mutual
theorem nested_rep (I : Inv X pins sg H s) : ∀ (n : Nat) (d : D) (v : V) (u : Value), Rep X.K fa H v d → RelV v u → keyOk n d = true → NestedIs s.heap (keyD d) u ∧ (keyD d).depth ≤ n
  | n, .non, _, u, .non, r, _ => by
    cases (show u = Value.none from r)
    rw [keyD]
    exact ⟨.none, Nat.zero_le _⟩
  | n, .bl b, _, u, .bl _, r, _ => by
    cases (show u = Value.bool b from r)
    rw [keyD]
    exact ⟨.bool rfl, Nat.zero_le _⟩
  | n, .int i, _, u, .int _, r, _ => by
    obtain ⟨t, rfl⟩ := r
    rw [keyD]
    exact ⟨.int i t, Nat.zero_le _⟩
  | n, .str x, _, u, .str _, r, _ => by
    obtain ⟨t, rfl⟩ := r
    rw [keyD]
    exact ⟨.text x t, Nat.zero_le _⟩
  | 0, .tup ds, _, u, .tup h q, r, k => by
    rw [keyOk.eq_def] at k
    cases k
  | n + 1, .tup ds, _, u, .tup (a := a) h q, r, k => by
    cases (show u = Value.ref a from r)
    obtain ⟨its, rv, ⟨o, ho, hc, c, hd⟩, hz⟩ := I.tuple h
    rw [keyOk] at k
    obtain ⟨z1, z2⟩ := nested_reps I n ds _ its q rv k
    rw [keyD]
    refine ⟨.tup ho hc hd z1, ?_⟩
    rw [NestedKey.depth]
    omega
  | _, .lst _, _, _, _, _, k => by rw [keyOk.eq_def] at k; cases k
  | _, .fn _, _, _, _, _, k => by rw [keyOk.eq_def] at k; cases k
  | _, .ty _, _, _, _, _, k => by rw [keyOk.eq_def] at k; cases k
theorem nested_reps (I : Inv X pins sg H s) : ∀ (n : Nat) (ds : List D) (vs : List V) (us : List Value), RepL X.K fa H vs ds → Vals vs us → keyOks n ds = true → NestedAll s.heap (keyDs ds) us ∧ NestedKey.depthAll (keyDs ds) ≤ n
  | n, [], _, _, .nil, .nil, _ => by
    rw [keyDs]
    exact ⟨.nil, Nat.zero_le _⟩
  | n, d :: ds, _, _, .cons h q, .cons r t, k => by
    rw [keyOks, Bool.and_eq_true] at k
    obtain ⟨a1, a2⟩ := nested_rep I n d _ _ h r k.1
    obtain ⟨b1, b2⟩ := nested_reps I n ds _ _ q t k.2
    rw [keyDs]
    refine ⟨.cons a1 b1, ?_⟩
    rw [NestedKey.depthAll]
    omega
end
theorem kat_rep (I : Inv X pins sg H s) {p : Addr × D} (h : Rep X.K fa H (.ref p.1) p.2) (k : memOk p.2 = true) : KAt s.heap (mbD p) := by
  unfold memOk at k
  rw [Bool.and_eq_true] at k
  exact nested_rep I 8 p.2 _ _ h rfl k.2
end
/-! ### one more -/
def addP (ps : List (Addr × D)) (p : Addr × D) : List (Addr × D) := if keyD p.2 ∈ ps.map (fun q => keyD q.2) then ps else ps ++ [p]
def putD (xs : List D) (d : D) : List D := if keyD d ∈ xs.map keyD then xs else xs ++ [d]
theorem addP_snd (ps : List (Addr × D)) (p : Addr × D) : (addP ps p).map Prod.snd = putD (ps.map Prod.snd) p.2 := by
  unfold addP putD
  rw [List.map_map]
  show _ = if keyD p.2 ∈ ps.map (fun q => keyD q.2) then _ else _
  split
  · rfl
  · rw [List.map_append] <;> rfl
theorem addP_mb (ps : List (Addr × D)) (p : Addr × D) : (addP ps p).map mbD = addM (ps.map mbD) (mbD p) := by
  unfold addP addM
  rw [List.map_map]
  show _ = if keyD p.2 ∈ ps.map (fun q => keyD q.2) then _ else _
  split
  · rfl
  · rw [List.map_append] <;> rfl
theorem addPs_snd : ∀ (qs ps : List (Addr × D)), (qs.foldl addP ps).map Prod.snd = (qs.map Prod.snd).foldl putD (ps.map Prod.snd)
  | [], _ => rfl
  | q :: qs, ps => by rw [List.foldl_cons, List.map_cons, List.foldl_cons, ← addP_snd]; exact addPs_snd qs _
theorem addPs_mb : ∀ (qs ps : List (Addr × D)), (qs.foldl addP ps).map mbD = (qs.map mbD).foldl addM (ps.map mbD)
  | [], _ => rfl
  | q :: qs, ps => by rw [List.foldl_cons, List.map_cons, List.foldl_cons, ← addP_mb]; exact addPs_mb qs _
theorem addP_sub {ps : List (Addr × D)} {p q : Addr × D} (h : q ∈ addP ps p) : q ∈ ps ∨ q = p := by
  unfold addP at h
  split at h
  · exact .inl h
  · rcases List.mem_append.mp h with h | h
    · exact .inl h
    · exact .inr (List.mem_singleton.mp h)
theorem addPs_sub : ∀ (qs ps : List (Addr × D)) {q : Addr × D}, q ∈ qs.foldl addP ps → q ∈ ps ∨ q ∈ qs
  | [], _, _, h => .inl h
  | r :: qs, ps, q, h => by
    rw [List.foldl_cons] at h
    rcases addPs_sub qs _ h with h | h
    · rcases addP_sub h with h | h
      · exact .inl h
      · exact .inr (by rw [h]; exact List.mem_cons_self)
    · exact .inr (List.mem_cons_of_mem _ h)
/-- the items as members -/
theorem mems_of {K : PySem.W.Frag} {fa : FA} {F : Hp} : ∀ {us : List V} {ds : List D}, RepL K fa F us ds → ds.all memOk = true → ∃ ps : List (Addr × D), us = ps.map (fun p => V.ref p.1) ∧ ds = ps.map Prod.snd ∧ ∀ p ∈ ps, Rep K fa F (.ref p.1) p.2 ∧ memOk p.2 = true
  | _, _, .nil, _ => ⟨[], rfl, rfl, fun _ h => by cases h⟩
  | v :: us, d :: ds, .cons h r, k => by
    rw [List.all_cons, Bool.and_eq_true] at k
    obtain ⟨ps, e1, e2, e3⟩ := mems_of r k.2
    have kt := k.1
    unfold memOk at kt
    rw [Bool.and_eq_true] at kt
    cases d with
    | tup xs =>
      cases h with
      | @tup a vs _ h1 h2 =>
        refine ⟨(a, .tup xs) :: ps, by rw [List.map_cons, e1], by rw [List.map_cons, e2], fun p hp => ?_⟩
        rcases List.mem_cons.mp hp with rfl | hp
        · exact ⟨.tup h1 h2, k.1⟩
        · exact e3 p hp
    | _ => exact absurd kt.1 (by simp [isTup])
section
variable {K : PySem.W.Frag} {fa : FA} {x m : List Addr} {H : Hp} {S : Stor}
theorem SRel.storedC (s : SRel K fa x m H S) {p : Addr} {o : HO} {c : C} (h : H p = none) (hc : Cell K fa (fz (m ++ [p] ++ x) (upd H p o)) (m ++ [p]) (upd H p o) p c) : SRel K fa x (m ++ [p]) (upd H p o) (S ++ [c]) := by
  obtain ⟨o1, o2⟩ := s.off h
  have e : m ++ [p] ++ x = m ++ p :: x := by simp
  refine ⟨?_, by simp [s.len], fun i a c' e1 e2 => ?_, fun a ha => ?_⟩
  · have nd := s.nd
    rw [e]
    rw [List.nodup_append] at nd ⊢
    refine ⟨nd.1, List.nodup_cons.mpr ⟨o2, nd.2.1⟩, fun a ha b hb => ?_⟩
    rcases List.mem_cons.mp hb with rfl | hb
    · exact fun z => o1 (z ▸ ha)
    · exact nd.2.2 a ha b hb
  · by_cases hi : i < m.length
    · rw [List.getElem?_append_left hi] at e1
      rw [List.getElem?_append_left (by rw [← s.len]; exact hi)] at e2
      have hm : a ∈ m := List.mem_of_getElem? e1
      exact cell_step (Step.stored h) (s.cell i a c' e1 e2) (upd_ne fun z => o1 (z ▸ hm))
    · rw [List.getElem?_append_right (by omega)] at e1
      rw [List.getElem?_append_right (by rw [← s.len]; omega), ← s.len] at e2
      have h0 : i - m.length = 0 := by
        have := (List.getElem?_eq_some_iff.mp e1).1
        simp at this
        omega
      rw [h0] at e1 e2
      simp at e1 e2
      subst e1 e2
      exact hc
  · rw [upd_ne (fun (z : a = p) => o2 (z ▸ ha))]
    exact s.there a ha
theorem SRel.wroteC (s : SRel K fa x m H S) {n : Nat} {a : Addr} {o : HO} {c : C} (ha : m[n]? = some a) (hc : Cell K fa (fz (m ++ x) H) m (upd H a o) a c) : SRel K fa x m (upd H a o) (S.set n c) := by
  have hm : a ∈ m := List.mem_of_getElem? ha
  have ndm : m.Nodup := (List.nodup_append.mp s.nd).1
  refine ⟨s.nd, by simp [s.len], fun i b c' e1 e2 => ?_, fun b hb => ?_⟩
  · rw [fz_upd hm]
    by_cases hi : n = i
    · subst hi
      rw [ha] at e1
      cases e1
      have hn : n < S.length := by rw [← s.len]; exact (List.getElem?_eq_some_iff.mp ha).1
      rw [List.getElem?_set_self hn] at e2
      cases e2
      exact hc
    · rw [List.getElem?_set_ne hi] at e2
      have hne : b ≠ a := fun z => by
        subst z
        obtain ⟨h1, g1⟩ := List.getElem?_eq_some_iff.mp ha
        obtain ⟨h2, g2⟩ := List.getElem?_eq_some_iff.mp e1
        exact hi ((List.getElem_inj ndm).mp (g1.trans g2.symm))
      exact (s.cell i b c' e1 e2).move (fun _ _ q => q) (upd_ne hne)
  · by_cases hne : b = a
    · subst hne; rw [upd_same]; simp
    · rw [upd_ne hne]; exact s.there b hb
end
end DL
namespace DL
open PySem PySem.Spec PyProof.Rows L2
section
variable {X : Cx} {fa : FA}
theorem kset_new {P : Program} {w : World} {H : Hp} {h : Heap} {a : Addr} {L : List Mb} {es : Array (Int × Value)} {ep : Nat} {t : SetTable} (R : KRaw w h a L es ep t) : ObjOk P w H h a (KSet w a L) := by
  obtain ⟨o, ho, _⟩ := R.ob
  refine ⟨⟨es, ep, t, R⟩, ⟨o, ho⟩, fun h1 h2 p k => ?_⟩
  obtain ⟨es', ep', t', R'⟩ := p
  exact ⟨es', ep', t', R'.keep k⟩
theorem kset_get {pins : List (Addr × Obj)} {sg : L2.St} {H : Hp} {s : Shared} {a : Addr} {w : World} {L : List Mb} (I : Inv X pins sg H s) (h : H a = some (KSet w a L)) : ∃ es ep t, KRaw w s.heap a L es ep t := (I.hok a _ h).1
/-- set(), set(xs) -/
def rSetA (K : PySem.W.Frag) (fa : FA) : List V → Hp → VK → Prop := fun vs H Q =>
  (vs = [] ∧ ∀ p, H p = none → Q (.ref p) (upd H p (KSet fa.w p []))) ∨
  ∃ (l : Addr) (us : List V) (ps : List (Addr × D)), vs = [.ref l] ∧ (SqL K H l us ∨ SqT K H l us) ∧ us = ps.map (fun p => V.ref p.1) ∧ (∀ p ∈ ps, Rep K fa H (.ref p.1) p.2 ∧ memOk p.2 = true) ∧ ps.length < 64 ∧
    ∀ p L, L.Perm ((ps.foldl addP []).map mbD) → H p = none → Q (.ref p) (upd H p (KSet fa.w p L))
theorem vals_refs : ∀ {ps : List (Addr × D)} {us : List Value}, Vals (ps.map fun p => V.ref p.1) us → us = (ps.map mbD).map fun p => Value.ref p.1
  | [], _, .nil => rfl
  | p :: ps, _, .cons r t => by
    rw [List.map_cons, List.map_cons, ← vals_refs t]
    exact congrArg (· :: _) (show _ = Value.ref p.1 from r)
theorem call_setA (hw : fa.w = X.w) (hc : X.calm = true) (hu : X.A.units + 66 < cLine) : CallR X (.type "set") (rSetA X.K fa) := by
  intro pins s sg H vs us Q I r h
  rw [rSetA, hw] at h
  rcases h with ⟨rfl, q⟩ | ⟨l, ws, ps, rfl, hl, rfl, hp, few, q⟩
  · cases r
    refine setR_new fun _ => ?_
    have R : KRaw X.w (s.heap.push (freshSet X.w)) s.heap.objs.size [] #[] 0 (.fresh 0 0 (!X.w.params.followText "set-order")) := kraw_new (Heap.get?_push_size _ rfl)
    exact ⟨.ref _, upd H s.heap.objs.size (KSet X.w s.heap.objs.size []), I.laid (t' := s.toks) (fun b u e => Heap.get?_push_of_some _ e) (Nat.le_refl _) (kset_new R), rfl, q _ (I.hok.fresh (Nat.le_refl _))⟩
  · rw [Vals.ref1 r]
    have hd := I.ok.hd hc
    have mem : ∀ p ∈ ps.map mbD, KAt s.heap p := fun p hm => by
      obtain ⟨z, hz, rfl⟩ := List.mem_map.mp hm
      exact kat_rep I (hp z hz).1 (hp z hz).2
    have fin : ∀ h' tk L es ep t, KRaw X.w h' s.heap.objs.size L es ep t → L.Perm ((ps.map mbD).foldl addM []) → (∀ b o, s.heap.get? b = some o → h'.get? b = some o) →
        ∃ (x : V) (H' : Hp), Inv X pins sg H' { s with heap := h', toks := tk } ∧ RelV x (.ref s.heap.objs.size) ∧ Q x H' := fun h' tk L es ep t R pm keep =>
      ⟨.ref _, upd H s.heap.objs.size (KSet X.w s.heap.objs.size L), I.laid (t' := tk) keep (Nat.le_refl _) (kset_new R), rfl, q _ L (by rw [addPs_mb]; exact pm) (I.hok.fresh (Nat.le_refl _))⟩
    rcases hl with hl | hl
    · obtain ⟨its, rv, pl, hz⟩ := I.list hl
      obtain ⟨o, ho, hcl, n, hdt⟩ := pl.isList
      refine set_from (P := X.prog) (w := X.w) (T := "list") (items := its.toArray) (ks := ps.map mbD) hd ho hcl hdt F.sub_list_set F.sub_list_frozenset (by decide) (fun B C s1 E' R hB ho1 k => ?_) (vals_refs rv) mem (by rw [List.length_map]; exact few) (by omega) fin
      have hl1 : s1.heap.IsList l its.toArray := ⟨o, ho1, hcl, n, hdt⟩
      have lt : l < s1.heap.objs.size := Heap.lt_size ho1
      exact wpAny_pyIter_list hl1 (k _ _ _ rfl (Walks.list (A := B) hB _ l (Nat.ne_of_lt lt) _).toS ⟨⟨_, Heap.get?_push_size _ rfl, rfl, rfl⟩, hl1.push _⟩)
    · obtain ⟨its, rv, ⟨o, ho, hcl, n, hdt⟩, hz⟩ := I.tuple hl
      refine set_from (P := X.prog) (w := X.w) (T := "tuple") (items := its.toArray) (ks := ps.map mbD) hd ho hcl hdt F.sub_tuple_set F.sub_tuple_frozenset (by decide) (fun B C s1 E' R hB ho1 k => ?_) (vals_refs rv) mem (by rw [List.length_map]; exact few) (by omega) fin
      have hl1 : s1.heap.IsTuple l its.toArray := ⟨o, ho1, hcl, n, hdt⟩
      have lt : l < s1.heap.objs.size := Heap.lt_size ho1
      exact wpAny_pyIter_tuple hl1 (k _ _ _ rfl (Walks.tuple (A := B) hB _ l (Nat.ne_of_lt lt) _).toS ⟨⟨_, Heap.get?_push_size _ rfl, rfl, rfl⟩, hl1.push _⟩)
def gSetOf (ws : List W) (S : Stor) : Res W := match ws with
  | [] => .ok (.r S.length) (S ++ [.set []])
  | [w] => match valD S w with
    | some (.lst xs) => if (xs.all memOk && decide (xs.length < 64)) = true then .ok (.r S.length) (S ++ [.set (xs.foldl putD [])]) else .bad
    | some (.tup xs) => if (xs.all memOk && decide (xs.length < 64)) = true then .ok (.r S.length) (S ++ [.set (xs.foldl putD [])]) else .bad
    | _ => .bad
  | _ => .bad
theorem set_use {K : PySem.W.Frag} {x m : List Addr} {H : Hp} {S : Stor} {sg : L2.St} {Wx : WX} {Q : VK} {xs : List D} (h : After K fa x m H sg Wx (relW K fa) Q (.ok (.r S.length) (S ++ [.set xs]))) (s : SRel K fa x m H S) {ps : List (Addr × D)} (e : ps.map Prod.snd = xs)
    (hp : ∀ p ∈ ps, Rep K fa (fz (m ++ x) H) (.ref p.1) p.2 ∧ memOk p.2 = true) (p : Addr) (L : List Mb) (pm : L.Perm (ps.map mbD)) (hn : H p = none) : Q (.ref p) (upd H p (KSet fa.w p L)) := by
  refine h (.ref p) (m ++ [p]) _ (Step.stored hn) (s.storedC hn ⟨ps, L, e, ⟨fun z hz => ⟨Rep.mono (Step.stored hn).fz _ _ (hp z hz).1, (hp z hz).2⟩, pm⟩, upd_same⟩) ⟨p, ?_, rfl⟩
  rw [← s.len]
  simp
theorem setD : CallD X fa (rSetA X.K fa) gSetOf := by
  intro x m H S sg Wx vs ws Q s r h
  unfold gSetOf at h
  split at h
  · cases r
    exact .inl ⟨rfl, fun p hn => set_use h s (ps := []) rfl (fun _ z => by cases z) p [] (.refl _) hn⟩
  · rename_i w
    obtain ⟨v, rfl, rv⟩ := ws1 r
    have go : ∀ (l : Addr) (us : List V) (xs : List D), (SqL X.K H l us ∨ SqT X.K H l us) → RepL X.K fa (fz (m ++ x) H) us xs → (xs.all memOk && decide (xs.length < 64)) = true → After X.K fa x m H sg Wx (relW X.K fa) Q (.ok (.r S.length) (S ++ [.set (xs.foldl putD [])])) → rSetA X.K fa [.ref l] H Q :=
        fun l us xs hl rp ok h => by
      rw [Bool.and_eq_true] at ok
      obtain ⟨ps, e1, e2, e3⟩ := mems_of rp ok.1
      refine .inr ⟨l, us, ps, rfl, hl, e1, fun p hp => ⟨Rep.mono fz_sub _ _ (e3 p hp).1, (e3 p hp).2⟩, ?_, fun p L pm hn => set_use h s (ps := ps.foldl addP []) (by rw [addPs_snd, e2] <;> rfl) (fun z hz => ?_) p L pm hn⟩
      · have z := of_decide_eq_true ok.2
        rw [e2, List.length_map] at z
        exact z
      · rcases addPs_sub ps [] hz with z | z
        · cases z
        · exact e3 _ z
    split at h
    · rename_i xs ew
      obtain ⟨l, us, rfl, hl, rp⟩ := rep_lst s rv ew
      split at h
      · rename_i ok
        exact go l us xs (.inl hl) rp ok h
      · exact h.elim
    · rename_i xs ew
      obtain ⟨l, us, rfl, hl, rp⟩ := rep_tup s rv ew
      split at h
      · rename_i ok
        exact go l us xs (.inr hl) rp ok h
      · exact h.elim
    · exact h.elim
  · exact h.elim
end
end DL
namespace DL
open PySem PySem.Spec PyProof.Rows L2
mutual
theorem reads_in {h : Heap} : ∀ {v : Value} {d : PyData} {as : List Addr}, Reads h v d as → ∀ a ∈ as, ∃ o, h.get? a = some o
  | _, _, _, .none, a, q => by cases q
  | _, _, _, .bool b, a, q => by cases q
  | _, _, _, .int i t, a, q => by cases q
  | _, _, _, .str x t, a, q => by cases q
  | _, _, _, .list h1 h2 h3 h4, a, q => by
    rcases List.mem_cons.mp q with rfl | q
    · exact ⟨_, h1⟩
    · exact readsAll_in h4 a q
  | _, _, _, .tuple h1 h2 h3 h4, a, q => readsAll_in h4 a q
  | _, _, _, .dict h1 h2 h3 h4 h5, a, q => by
    rcases List.mem_append.mp q with q | q
    · rcases List.mem_cons.mp q with rfl | q
      · exact ⟨_, h1⟩
      · exact readsAll_in h4 a q
    · exact readsAll_in h5 a q
theorem readsAll_in {h : Heap} : ∀ {vs : List Value} {ds : List PyData} {as : List Addr}, ReadsAll h vs ds as → ∀ a ∈ as, ∃ o, h.get? a = some o
  | _, _, _, .nil, a, q => by cases q
  | _, _, _, .cons h1 h2, a, q => by
    rcases List.mem_append.mp q with q | q
    · exact reads_in h1 a q
    · exact readsAll_in h2 a q
end
theorem perm_of_map {α β : Type} {f : α → β} {l m : List β} (h : l.Perm m) : ∀ ps : List α, m = ps.map f → ∃ qs : List α, qs.Perm ps ∧ l = qs.map f := by
  induction h with
  | nil => intro ps e; exact ⟨ps, .refl _, e⟩
  | cons x _ ih =>
    intro ps e
    cases ps with
    | nil => cases e
    | cons p ps =>
      rw [List.map_cons] at e
      cases e
      obtain ⟨qs, a, b⟩ := ih ps rfl
      exact ⟨p :: qs, a.cons p, by rw [List.map_cons, ← b]⟩
  | swap x y l =>
    intro ps e
    cases ps with
    | nil => cases e
    | cons p ps =>
      cases ps with
      | nil => cases e
      | cons r ps =>
        rw [List.map_cons, List.map_cons] at e
        cases e
        exact ⟨r :: p :: ps, .swap .., rfl⟩
  | trans _ _ ih1 ih2 =>
    intro ps e
    obtain ⟨qs, a, b⟩ := ih2 ps e
    obtain ⟨rs, c, d⟩ := ih1 qs b
    exact ⟨rs, c.trans a, d⟩
/-! ### sorted -/
/-- no two of the same rank -/
def apart : List D → Bool
  | [] => true
  | x :: xs => xs.all (fun y => !(dle x y && dle y x)) && apart xs
theorem apart_eq : ∀ {xs : List D}, apart xs = true → ∀ a ∈ xs, ∀ b ∈ xs, dle a b = true → dle b a = true → a = b
  | [], _, a, ha, _, _, _, _ => by cases ha
  | x :: xs, h, a, ha, b, hb, l1, l2 => by
    rw [apart, Bool.and_eq_true, List.all_eq_true] at h
    rcases List.mem_cons.mp ha with e | k <;> rcases List.mem_cons.mp hb with e' | k'
    · rw [e, e']
    · have := h.1 b k'
      rw [← e, l1, l2] at this
      cases this
    · have := h.1 a k
      rw [← e', l1, l2] at this
      cases this
    · exact apart_eq h.2 a k b k' l1 l2
theorem sortD_perm {xs ys : List D} (p : ys.Perm xs) (h : apart xs = true) : sortD ys = sortD xs := by
  rw [sortD_ms, sortD_ms]
  have s1 := PySem.W.sort_pairwise dle_total ys
  have s2 := PySem.W.sort_pairwise dle_total xs
  have p1 := List.mergeSort_perm ys dle
  have p2 := List.mergeSort_perm xs dle
  refine List.Perm.eq_of_pairwise (le := fun a b => dle a b = true) (fun a b ha hb => ?_) s1 s2 ((p1.trans p).trans p2.symm)
  exact apart_eq h a (p.mem_iff.mp (p1.mem_iff.mp ha)) b (p2.mem_iff.mp hb)
section
variable {X : Cx} {fa : FA}
theorem each_maps {α : Type} {R : Value → D → Prop} {f : α → Value} {g : α → D} : ∀ {ps : List α}, (∀ p ∈ ps, R (f p) (g p)) → PySem.W.EachIs R (ps.map f) (ps.map g)
  | [], _ => .nil
  | p :: ps, h => .cons (h p List.mem_cons_self) (each_maps fun q hq => h q (List.mem_cons_of_mem _ hq))
def rSortS (K : PySem.W.Frag) (fa : FA) : List V → Hp → VK → Prop := fun vs H Q => ∃ (a : Addr) (ps : List (Addr × D)) (L : List Mb) (F : Hp), vs = [V.ref a] ∧ H a = some (KSet fa.w a L) ∧ Mems K fa F ps L ∧ Same F H ∧ sortOk (ps.map Prod.snd) = true ∧ apart (ps.map Prod.snd) = true ∧
  ∀ (out : List V) (p : Addr), RepL K fa F out (sortD (ps.map Prod.snd)) → H p = none → Q (.ref p) (upd H p (.lst out))
theorem sortable_of {xs : List D} (ok : sortOk xs = true) : PySem.W.AllAlike (xs.map D.pd) ∧ PySem.W.Sortable (xs.map D.pd) := by
  obtain ⟨o1, o2, o3, o4⟩ := sortOk_split ok
  refine ⟨fun d hd d' hd' => ?_, ?_⟩
  · obtain ⟨b, hb, rfl⟩ := List.mem_map.mp hd
    obtain ⟨b', hb', rfl⟩ := List.mem_map.mp hd'
    exact o2 b hb b' hb'
  · rcases o4 with o4 | o4
    · refine .inl fun d hd => ?_
      obtain ⟨b, hb, rfl⟩ := List.mem_map.mp hd
      obtain ⟨y, t, rfl⟩ := o4 b hb
      exact ⟨y.pd, pds t, by rw [D.pd, pds]⟩
    · refine .inr fun d hd => ?_
      obtain ⟨b, hb, rfl⟩ := List.mem_map.mp hd
      obtain ⟨n1, n2⟩ := o4 b hb
      have pb := (okD_split (o1 _ hb)).1
      cases b with
      | non => exact absurd rfl n1
      | tup t => exact absurd rfl (n2 t)
      | fn n => rw [D.pure] at pb; cases pb
      | ty n => rw [D.pure] at pb; cases pb
      | bl _ => rw [D.pd]; exact ⟨fun z => (by cases z), fun _ z => (by cases z)⟩
      | int _ => rw [D.pd]; exact ⟨fun z => (by cases z), fun _ z => (by cases z)⟩
      | str _ => rw [D.pd]; exact ⟨fun z => (by cases z), fun _ z => (by cases z)⟩
      | lst _ => rw [D.pd]; exact ⟨fun z => (by cases z), fun _ z => (by cases z)⟩
theorem call_sortS (hw : fa.w = X.w) (hc : X.calm = true) (hu : X.A.units + 66 < cLine) : CallR X (.builtin "sorted") (rSortS X.K fa) := by
  intro pins s sg H vs us Q I r h
  obtain ⟨a, ps, L, F, rfl, ha, mem, hF, ok, ap, q⟩ := h
  rw [hw] at ha
  obtain ⟨es, ep, t, R⟩ := kset_get I ha
  obtain ⟨o, ho, hex, hd⟩ := R.ob
  have sz := rows_size R.es
  have few := R.few
  rw [Vals.ref1 r]
  have hh := I.ok.hd hc
  refine Calls.call_function_entry kind_sorted plain_sorted entry_sorted (args_sorted1 _) ?_
  unfold Builtin.«sorted»
  refine wpAny_bind (m := checkCount "sorted" 1 1 _) (wpAny_pure ?_)
  refine wpAny_bind (collect_set (A := X.A.in1) hh ⟨o, ho, hex.1, hd⟩ R.fits (by unfold scanBound; omega) R.tab.ris R.led fun s1 out keep hz g1 o1 pm => ?_)
  have e1 : es.toList.map (·.2) = L.map fun p => Value.ref p.1 := by
    rw [R.es, List.map_map] <;> rfl
  rw [e1] at pm
  have pm2 : out.Perm (ps.map fun p => Value.ref p.1) := by
    have z := mem.perm.map fun p : Mb => Value.ref p.1
    rw [List.map_map] at z
    exact pm.trans z
  obtain ⟨qs, pq, eq⟩ := perm_of_map pm2 ps rfl
  subst eq
  have pd : (qs.map Prod.snd).Perm (ps.map Prod.snd) := pq.map _
  have inP : ∀ p ∈ qs, Rep X.K fa F (.ref p.1) p.2 ∧ memOk p.2 = true := fun p hp => mem.rep p (pq.mem_iff.mp hp)
  obtain ⟨k1, k2, k3, k4⟩ := sortOk_split ok
  have k1' : ∀ p ∈ qs, okD p.2 = true := fun p hp => k1 p.2 (List.mem_map_of_mem (pq.mem_iff.mp hp))
  obtain ⟨al, so⟩ := sortable_of ok
  have pdd := pd.map D.pd
  have al' : PySem.W.AllAlike ((qs.map Prod.snd).map D.pd) := fun d hd d' hd' => al d (pdd.mem_iff.mp hd) d' (pdd.mem_iff.mp hd')
  have so' : PySem.W.Sortable ((qs.map Prod.snd).map D.pd) := by
    rcases so with so | so
    · exact .inl fun d hd => so d (pdd.mem_iff.mp hd)
    · exact .inr fun d hd => so d (pdd.mem_iff.mp hd)
  have lq : qs.length ≤ 16777216 := by
    have z := k3
    rw [← pd.length_eq, List.length_map] at z
    exact z
  refine wpAny_bind (wpAny_newList ?_ (by rw [List.length_map, ← sl16]; exact lq))
  have hL : (s1.heap.push (seqObj "list" (qs.map fun p => Value.ref p.1).toArray 0)).get? s1.heap.objs.size = some (seqObj "list" (qs.map fun p => Value.ref p.1).toArray 0) := Heap.get?_push_size _ rfl
  have stay : ∀ b u, s.heap.get? b = some u → (s1.heap.push (seqObj "list" (qs.map fun p => Value.ref p.1).toArray 0)).get? b = some u := fun b u e => Heap.get?_push_of_some _ (keep b u e)
  have e0 : PySem.W.EachIs (fun u d => ∃ v, RelV v u ∧ Rep X.K fa F v d) (qs.map fun p => Value.ref p.1) (qs.map Prod.snd) := each_maps fun p hp => ⟨.ref p.1, rfl, (inP p hp).1⟩
  have er : PySem.W.EachIs (fun u d => ∃ as, Reads (s1.heap.push (seqObj "list" (qs.map fun p => Value.ref p.1).toArray 0)) u d.pd as ∧ s1.heap.objs.size ∉ as) (qs.map fun p => Value.ref p.1) (qs.map Prod.snd) := each_maps fun p hp => by
    obtain ⟨as, rd⟩ := Dp.reads I _ _ (.ref p.1) (Rep.dp _ _ (Rep.mono hF _ _ (inP p hp).1) (okD_split (k1' p hp)).1) rfl
    refine ⟨as, PyProof.Rows.Reads.keeps stay rd, fun z => ?_⟩
    obtain ⟨u, hu'⟩ := reads_in rd _ z
    exact absurd (Heap.lt_size (keep _ _ hu')) (Nat.lt_irrefl _)
  refine wpAny_bind (wpAny_holding (PySem.W.list_sort_data (enc := D.pd) (s := { s1 with heap := s1.heap.push (seqObj "list" (qs.map fun p => Value.ref p.1).toArray 0) }) hL e0 er al' so' (by rw [List.length_map, ← sl16]; exact lq) (fun b hb => ?_) fun out hlen hout => ?_))
  · obtain ⟨p, hp, rfl⟩ := List.mem_map.mp hb
    have := SeqAt.depth_of_shaped (okD_split (k1' p hp)).2
    simp only [Around.in1_units]
    omega
  · rw [← sortD_ms] at hout
    rw [sortD_perm pd ap] at hout
    obtain ⟨zs, z1, z2⟩ := each_back hout
    obtain ⟨c, hcl⟩ := sortedHeap_at (vs := qs.map fun p => Value.ref p.1) (out := out.toArray) hL
    have old : ∀ b u, s.heap.get? b = some u → (sortedHeap (s1.heap.push (seqObj "list" (qs.map fun p => Value.ref p.1).toArray 0)) s1.heap.objs.size (qs.map fun p => Value.ref p.1) out.toArray).get? b = some u := fun b u e => by
      have lt := Heap.lt_size (keep b u e)
      rw [sortedHeap_old (Nat.ne_of_lt lt) (by rw [size_push']; exact Nat.lt_succ_of_lt lt)]
      exact stay b u e
    have hn : H s1.heap.objs.size = none := I.hok.fresh hz
    have hle : zs.length ≤ sizeLine := by
      rw [z1.length, hlen, List.length_map, ← sl16]
      exact lq
    have J : Inv X pins sg (upd H s1.heap.objs.size (.lst zs)) { s with heap := sortedHeap (s1.heap.push (seqObj "list" (qs.map fun p => Value.ref p.1).toArray 0)) s1.heap.objs.size (qs.map fun p => Value.ref p.1) out.toArray, gens := s1.gens, drawn := s1.drawn, toks := s1.toks } :=
      I.call (ch := []) (Un.laid old hz hn) (I.hok.laid old hz ⟨hle, out, c, z1, hcl⟩) (by rw [g1]; exact I.bare) (fun _ z => nomatch z)
    refine wpAny_pure ⟨_, rfl, .ref s1.heap.objs.size, upd H s1.heap.objs.size (.lst zs), ?_, rfl, q zs _ z2 hn⟩
    cases s1
    cases s
    dsimp only at o1
    subst o1
    exact J
end
end DL
namespace DL
open PySem PySem.Spec PyProof.Rows L2
section
variable {X : Cx} {fa : FA} {Wx : WX} {pos p : Pos} {f : Den W} {fs : Den (List W)}
/-! ### sorted(set) -/
def setAt (S : Stor) : W → Option (List D)
  | .r n => match S[n]? with
    | some (.set xs) => some xs
    | _ => none
  | _ => none
theorem setAt_rep {K : PySem.W.Frag} {x m : List Addr} {H : Hp} {S : Stor} (s : SRel K fa x m H S) {v : V} {w : W} {xs : List D} (r : RepW K fa (fz (m ++ x) H) m v w) (e : setAt S w = some xs) :
    ∃ n a ps L, w = .r n ∧ m[n]? = some a ∧ S[n]? = some (.set xs) ∧ v = .ref a ∧ ps.map Prod.snd = xs ∧ Mems K fa (fz (m ++ x) H) ps L ∧ H a = some (KSet fa.w a L) := by
  cases w with
  | l => cases e
  | d y => cases e
  | r n =>
    unfold setAt at e
    cases q : S[n]? with
    | none => simp only [q] at e; cases e
    | some c =>
      cases c with
      | set ys =>
        simp only [q] at e
        cases e
        obtain ⟨a, ha, rfl⟩ := r
        obtain ⟨ps, L, h1, h2, h3⟩ := s.cell n a _ ha q
        exact ⟨n, a, ps, L, rfl, ha, q, rfl, h1, h2, h3⟩
      | lst ys => simp only [q] at e; cases e
      | tab ys => simp only [q] at e; cases e
      | dk ys => simp only [q] at e; cases e
      | dn ys => simp only [q] at e; cases e
      | obj ys zs => simp only [q] at e; cases e
def gSortB (mu : Bool) (ws : List W) (S : Stor) : Res W := match ws with
  | [w] => match setAt S w with
    | some xs => if (sortOk xs && apart xs) = true then fin mu (sortD xs) S else .bad
    | none => gSorted mu [w] S
  | _ => .bad
theorem sortBD (mu : Bool) : CallD X fa (fun vs H Q => rSortA X.K fa vs H Q ∨ rSortS X.K fa vs H Q) (gSortB mu) := by
  intro x m H S sg Wx vs ws Q s r h
  unfold gSortB at h
  split at h
  · rename_i w
    obtain ⟨v, rfl, rv⟩ := ws1 r
    split at h
    · rename_i xs ew
      split at h
      · rename_i ok
        rw [Bool.and_eq_true] at ok
        obtain ⟨n, a, ps, L, _, _, _, rfl, e1, mem, ha⟩ := setAt_rep s rv ew
        subst e1
        exact .inr ⟨a, ps, L, _, rfl, ha, mem, fz_sub, ok.1, ok.2, fun out l ro hl => fin_use h s ro l hl⟩
      · exact h.elim
    · exact .inl (sortedD mu x m H S sg Wx [v] [w] Q s (.cons rv .nil) h)
  · exact h.elim
theorem call_sortB (hw : fa.w = X.w) (hc : X.calm = true) (hu : X.A.units + 66 < cLine) : CallR X (.builtin "sorted") (fun vs H Q => rSortA X.K fa vs H Q ∨ rSortS X.K fa vs H Q) := by
  intro pins s sg H vs us Q I r h
  rcases h with h | h
  · exact call_sortA hu pins s sg H vs us Q I r h
  · exact call_sortS hw hc hu pins s sg H vs us Q I r h
/-! ### len(set) -/
def gLenS (ws : List W) (S : Stor) : Res W := match ws with
  | [w] => match setAt S w with
    | some xs => .ok (.d (.int xs.length)) S
    | none => gLen [w] S
  | _ => .bad
abbrev rLen (K : PySem.W.Frag) : List V → Hp → VK → Prop := fun xs H Q => ∃ x n, xs = [x] ∧ LenV K x H n ∧ Q (.int n) H
def rLenS (fa : FA) : List V → Hp → VK → Prop := fun vs H Q => ∃ (a : Addr) (L : List Mb), vs = [V.ref a] ∧ H a = some (KSet fa.w a L) ∧ Q (.int L.length) H
theorem call_lenS (hw : fa.w = X.w) : CallR X (.builtin "len") (fun vs H Q => rLen X.K vs H Q ∨ rLenS fa vs H Q) := by
  intro pins s sg H vs us Q I r h
  rcases h with h | ⟨a, L, rfl, ha, q⟩
  · exact call_len pins s sg H vs us Q I r h
  · rw [hw] at ha
    obtain ⟨es, ep, t, R⟩ := kset_get I ha
    obtain ⟨o, ho, hex, hd⟩ := R.ob
    have n := rows_size R.es
    rw [Vals.ref1 r]
    exact call_len_set ho hex hd R.fits (by rw [n]; have := R.few; omega) ⟨.int L.length, H, I.tok _, ⟨_, by rw [n]⟩, q⟩
theorem lenSD : CallD X fa (fun vs H Q => rLen X.K vs H Q ∨ rLenS fa vs H Q) gLenS := by
  intro x m H S sg Wx vs ws Q s r h
  unfold gLenS at h
  split at h
  · rename_i w
    obtain ⟨v, rfl, rv⟩ := ws1 r
    split at h
    · rename_i xs ew
      obtain ⟨n, a, ps, L, _, _, _, rfl, e1, mem, ha⟩ := setAt_rep s rv ew
      subst e1
      refine .inr ⟨a, L, rfl, ha, ?_⟩
      have e : L.length = (ps.map Prod.snd).length := by rw [mem.perm.length_eq, List.length_map, List.length_map]
      rw [e]
      exact ok_use h s (.int _)
    · exact .inl (lenD x m H S sg Wx [v] [w] Q s (.cons rv .nil) h)
  · exact h.elim
/-! ### set() -/
theorem de_callT0 {x : Str} {id : String} {r : List V → Hp → VK → Prop} {k : List W → Stor → Res W} (hc : CallR X (.type id) r) (hk : CallD X fa r k) (hg : Gl X x) (hm : X.mg x = none) (hv : bootBuiltins x = some (.type id)) (hn : x ≠ "__name__" := by decide) (hdb : (x == ("__debug__" : Str)) = false := by decide) :
    DE X fa Wx (.Call (.Name x p) [] [] pos) (dCall k dNil) := by
  refine PE.imp (pe_callTy0 hc hg hm hv hn hdb) fun sg H Q hq => ?_
  obtain ⟨x, m, rho, S, at_, q⟩ := hq
  exact hk x m H S sg Wx [] [] Q at_.s .nil q
/-! ### found.add(x) -/
def gSAdd (w : W) (ws : List W) (S : Stor) : Res W := match w, ws with
  | .r n, [.d y] => match S[n]? with
    | some (.set xs) => if (memOk y && decide (xs.length + 1 < 64)) = true then .ok (.d .non) (S.set n (.set (putD xs y))) else .bad
    | _ => .bad
  | _, _ => .bad
def dSAdd (f : Den W) (fs : Den (List W)) : Den W := fun rho S => (f rho S).bind fun w S1 => if (setAt S1 w).isSome = true then (fs rho S1).bind fun ws S2 => gSAdd w ws S2 else .bad
def rSAddA (K : PySem.W.Frag) (fa : FA) : V → List V → Hp → VK → Prop := fun x xs H Q => ∃ (a : Addr) (ps : List (Addr × D)) (L : List Mb) (b : Addr × D), x = .ref a ∧ xs = [.ref b.1] ∧ H a = some (KSet fa.w a L) ∧ Mems K fa H ps L ∧ Rep K fa H (.ref b.1) b.2 ∧ memOk b.2 = true ∧ ps.length + 1 < 64 ∧
  ∀ L', L'.Perm ((addP ps b).map mbD) → Q .non (upd H a (KSet fa.w a L'))
theorem call_sadd (hw : fa.w = X.w) (hu : X.A.units + 66 < cLine) : MtR X "set.add" (rSAddA X.K fa) := by
  intro pins s sg H x xs v us Q I rx rxs h
  obtain ⟨a, ps, L, b, rfl, rfl, ha, mem, hb, ok, few, q⟩ := h
  rw [hw] at ha q
  cases (show v = Value.ref a from rx)
  rw [Vals.ref1 rxs]
  obtain ⟨es, ep, t, R⟩ := kset_get I ha
  obtain ⟨o, ho, hex, hd⟩ := R.ob
  have ty : s.TypeIs (.ref a) "set" := ⟨o, ho, hex.1⟩
  have kb : KAt s.heap (mbD b) := kat_rep I hb ok
  have kl : ∀ p ∈ L, KAt s.heap p := fun p hp => by
    obtain ⟨z, hz, rfl⟩ := List.mem_map.mp (mem.perm.mem_iff.mp hp)
    exact kat_rep I (mem.rep z hz).1 (mem.rep z hz).2
  have len : L.length = ps.length := by rw [mem.perm.length_eq, List.length_map]
  refine wpAny_call_entry F.slot_set_add ty F.entry_set_add ?_ (F.args_set_add_2 _ _)
  unfold Builtin.«set.add» Builtin.Frozenset.oneOther
  simp only [List.isEmpty_nil, bind_assoc]
  unfold Builtin.Frozenset.addrOf setAdd
  refine wpAny_bind (wpAny_pure (wpAny_bind (wpAny_pure (wpAny_bind (wpAny_holding (wpAny_bind ((nestedKind X.prog X.w).pyHash (by show X.A.in1.units + 8 < cLine; simp only [Around.in1_units]; omega) kb ?_)))))))
  refine add_key (x := mbD b) (s := { s with toks := s.toks + (mbD b).2.draws }) R kl kb (by simp only [Around.in1_units]; omega) (by omega) fun b' h' L' es' ep' t' sb R' _ c1 c2 => ?_
  have pm : L'.Perm ((addP ps b).map mbD) := by
    rw [addP_mb]
    exact addM_perm mem.perm c1 c2
  obtain ⟨o', ho', _⟩ := R'.ob
  refine wpAny_pure ⟨_, rfl, .non, upd H a (KSet X.w a L'), I.write (e := a) (t' := s.toks + (mbD b).2.draws) (by rw [ha]; trivial) (.inl rfl) (fun c u hc hu => (sb.2 c hc).trans hu) ⟨o', ho'⟩ (kset_new R'), rfl, q L' pm⟩

theorem saddD : MethD X fa (rSAddA X.K fa) gSAdd := by
  intro x m H S sg Wx v w vs ws Q s rv rs h
  unfold gSAdd at h
  split at h
  · rename_i n y
    obtain ⟨a, ha, rfl⟩ := rv
    obtain ⟨z, rfl, rz⟩ := ws1 rs
    split at h
    · rename_i xs ec
      obtain ⟨ps, L, e1, mem, h2⟩ := s.cell n a _ ha ec
      subst e1
      split at h
      · rename_i ok
        rw [Bool.and_eq_true] at ok
        have few := of_decide_eq_true ok.2
        rw [List.length_map] at few
        have kt := ok.1
        unfold memOk at kt
        rw [Bool.and_eq_true] at kt
        have rz : Rep X.K fa (fz (m ++ x) H) z y := rz
        cases y with
        | tup ys =>
          cases rz with
          | @tup b us _ g1 g2 =>
            refine ⟨a, ps, L, (b, .tup ys), rfl, rfl, h2, ⟨fun p hp => ⟨Rep.mono fz_sub _ _ (mem.rep p hp).1, (mem.rep p hp).2⟩, mem.perm⟩, Rep.mono fz_sub _ _ (.tup g1 g2), ok.1, few, fun L' pm => ?_⟩
            refine h .non m _ (Step.wrote (List.mem_of_getElem? ha)) (s.wroteC ha ⟨addP ps (b, .tup ys), L', addP_snd _ _, ⟨fun p hp => ?_, pm⟩, upd_same⟩) .non
            rcases addP_sub hp with hp | hp
            · exact mem.rep p hp
            · rw [hp]; exact ⟨.tup g1 g2, ok.1⟩
        | _ => exact absurd kt.1 (by simp [isTup])
      · exact h.elim
    · exact h.elim
  · exact h.elim
theorem de_sadd {o e : Expr} {es : List Expr} {apos cpos : Pos} (hw : fa.w = X.w) (hu : X.A.units + 66 < cLine) (ho : DE X fa Wx o f) (ha : DA X fa Wx (e :: es) fs)
    (hbase : attributeBase o "add" X.env (eval o X.env) = eval o X.env := by rfl)
    (hfew : ((backTo cpos (starEach (e :: es) X.env)).all (fun x => !x.1) && (backToKw cpos (keywordEach [] X.env)).all (fun x => x.1.isSome)
      && decide ((e :: es).length + ([] : List Keyword).length + (if ([] : List Keyword).isEmpty then 0 else 1) < 30)) = true := by rfl)
    (hline : (apos.endLine == cpos.line) = true := by rfl) (hs : starEach (e :: es) X.env = (false, eval e X.env) :: starEach es X.env := by rfl) (hplain : (backTo cpos (starEach es X.env)).any (·.1) = false := by rfl) :
    DE X fa Wx (.Call (.Attribute o "add" apos) (e :: es) [] cpos) (dSAdd f fs) := by
  refine ⟨fun pins s sg H Q I h => ?_⟩
  refine wpAny_Call_method_late hbase hfew hline rfl ?_
  have one : T X.K fa Wx (relW X.K fa) f sg H fun v H1 => ∃ a L, v = .ref a ∧ H1 a = some (KSet X.w a L) ∧ T X.K fa Wx (fun F m vs ws => RepWs X.K fa F m vs ws) fs sg H1 fun vs H2 => rSAddA X.K fa v vs H2 Q := by
    refine T.one (r3 := relW X.K fa) (g := fun rho w S1 => if (setAt S1 w).isSome = true then (fs rho S1).bind fun ws S2 => gSAdd w ws S2 else .bad) (fun _ _ _ q => q) (fun x m H1 S v a rho at_ ra q => ?_) h
    cases hx : setAt S a with
    | none => rw [hx] at q; exact (show False from q).elim
    | some xs =>
      rw [hx] at q
      have q : After X.K fa x m H1 sg Wx (relW X.K fa) Q ((fs rho S).bind fun ws S2 => gSAdd a ws S2) := q
      obtain ⟨n, b, ps, L, rfl, hm, _, rfl, _, _, hb⟩ := setAt_rep at_.s ra hx
      refine ⟨b, L, rfl, by rw [← hw]; exact hb, x, m, rho, S, at_, ?_⟩
      have q1 := After.then (rel := fun F m vs ws => RepWs X.K fa F m vs ws) q
      revert q1
      cases fs rho S with
      | bad => exact fun z => z
      | exc e S1 => exact fun z => z
      | ok ws S1 =>
        intro q1 us m2 H2 s2 t2 r2
        obtain ⟨m2', w2', S2', t2, u2, rw2', q2⟩ := q1 us m2 H2 s2 t2 r2
        exact saddD x m2' H2 S2' sg Wx (.ref b) _ us w2' Q u2 (ra.step t2) rw2' q2
  refine thn (ho.run pins s sg H _ I one) fun u s1 ⟨v, H1, I1, r1, a, L, ev, hb, q1⟩ => ?_
  subst ev
  cases (show u = Value.ref a from r1)
  obtain ⟨es', ep, t, R⟩ := kset_get I1 hb
  obtain ⟨ob, hob, hex, _⟩ := R.ob
  refine ⟨"set", "set.add", F.plainAttrs_set, F.slot_set_add, F.type_set_add, ⟨ob, hob, hex.1⟩, fun c e => ?_, ?_⟩
  · cases e
    exact ⟨ob, hob, hex.2.1⟩
  · have hA := ha.run cpos pins s1 sg H1 _ I1 q1
    rw [hs] at hA ⊢
    refine Calls.callWith_builtin (by show (false || (backTo cpos (starEach es X.env)).any (·.1)) = false; rw [hplain] <;> rfl) (Calls.evalArgs_plain ?_)
    exact thn hA fun us s2 ⟨vs, H2, I2, r2, q2⟩ => call_sadd hw hu pins s2 sg H2 (.ref a) vs (.ref a) us Q I2 rfl r2 q2
end
end DL
namespace DL
open PySem PySem.Spec PyProof.Rows L2 StX
/-! ### the same places, another lambda -/
def FA.with (fa : FA) (z : Option (Addr × Addr × Str × Hp)) : FA := { fa with lam := z }
section
variable {K : PySem.W.Frag} {fa : FA} {z : Option (Addr × Addr × Str × Hp)} {F : Hp} {x m m' : List Addr} {H : Hp} {S : Stor}
mutual
theorem Rep.with : ∀ (d : D) (v : V), Rep K fa F v d → Rep K (fa.with z) F v d
  | .non, _, .non => .non
  | .bl _, _, .bl b => .bl b
  | .int _, _, .int i => .int i
  | .str _, _, .str y => .str y
  | .tup ds, _, .tup h r => .tup h (RepL.with ds _ r)
  | .lst ds, _, .lst h r => .lst h (RepL.with ds _ r)
  | .fn _, _, .fn n => .fn (fa := fa.with z) n
  | .ty _, _, .ty t => .ty t
theorem RepL.with : ∀ (ds : List D) (vs : List V), RepL K fa F vs ds → RepL K (fa.with z) F vs ds
  | [], _, .nil => .nil
  | d :: ds, _, .cons h r => .cons (Rep.with d _ h) (RepL.with ds _ r)
end
mutual
theorem Rep.off : ∀ (d : D) (v : V), Rep K (fa.with z) F v d → Rep K fa F v d
  | .non, _, .non => .non
  | .bl _, _, .bl b => .bl b
  | .int _, _, .int i => .int i
  | .str _, _, .str y => .str y
  | .tup ds, _, .tup h r => .tup h (RepL.off ds _ r)
  | .lst ds, _, .lst h r => .lst h (RepL.off ds _ r)
  | .fn _, _, .fn n => .fn (fa := fa) n
  | .ty _, _, .ty t => .ty t
theorem RepL.off : ∀ (ds : List D) (vs : List V), RepL K (fa.with z) F vs ds → RepL K fa F vs ds
  | [], _, .nil => .nil
  | d :: ds, _, .cons h r => .cons (Rep.off d _ h) (RepL.off ds _ r)
end
theorem RepC.with {v : V} {w : W} (h : RepC K fa F m v w) : RepC K (fa.with z) F m v w := by
  cases w with
  | d y => exact Rep.with _ _ h
  | r n => exact h
  | l => exact h
theorem RepC.off {v : V} {w : W} (h : RepC K (fa.with z) F m v w) : RepC K fa F m v w := by
  cases w with
  | d y => exact Rep.off _ _ h
  | r n => exact h
  | l => exact h
theorem DN.with {L : List Ent} {ws : List (D × W)} (h : DN K fa F (RepC K fa F m) L ws) : DN K (fa.with z) F (RepC K (fa.with z) F m) L ws := by
  induction h with
  | nil => exact .nil
  | cons r k q t ih => exact .cons (Rep.with _ _ r) k (RepC.with q) ih
theorem DN.off {L : List Ent} {ws : List (D × W)} (h : DN K (fa.with z) F (RepC K (fa.with z) F m) L ws) : DN K fa F (RepC K fa F m) L ws := by
  induction h with
  | nil => exact .nil
  | cons r k q t ih => exact .cons (Rep.off _ _ r) k (RepC.off q) ih
theorem Cell.with {a : Addr} {c : C} (h : Cell K fa F m H a c) : Cell K (fa.with z) F m H a c := by
  cases c with
  | lst xs => obtain ⟨vs, h1, h2⟩ := h; exact ⟨vs, h1, RepL.with _ _ h2⟩
  | set xs => obtain ⟨ps, L, h1, h2, h3⟩ := h; exact ⟨ps, L, h1, ⟨fun p hp => ⟨Rep.with _ _ (h2.rep p hp).1, (h2.rep p hp).2⟩, h2.perm⟩, h3⟩
  | tab q => exact h
  | dk kvs => obtain ⟨vs, h1, h2⟩ := h; exact ⟨vs, h1, h2.imp fun _ _ => RepC.with⟩
  | dn kvs => obtain ⟨L, h1, h2⟩ := h; exact ⟨L, h1, h2.with⟩
  | obj c fs => obtain ⟨dx, vs, h1, h2⟩ := h; exact ⟨dx, vs, h1, h2.imp fun _ _ => RepC.with⟩
theorem Cell.off {a : Addr} {c : C} (h : Cell K (fa.with z) F m H a c) : Cell K fa F m H a c := by
  cases c with
  | lst xs => obtain ⟨vs, h1, h2⟩ := h; exact ⟨vs, h1, RepL.off _ _ h2⟩
  | set xs => obtain ⟨ps, L, h1, h2, h3⟩ := h; exact ⟨ps, L, h1, ⟨fun p hp => ⟨Rep.off _ _ (h2.rep p hp).1, (h2.rep p hp).2⟩, h2.perm⟩, h3⟩
  | tab q => exact h
  | dk kvs => obtain ⟨vs, h1, h2⟩ := h; exact ⟨vs, h1, h2.imp fun _ _ => RepC.off⟩
  | dn kvs => obtain ⟨L, h1, h2⟩ := h; exact ⟨L, h1, h2.off⟩
  | obj c fs => obtain ⟨dx, vs, h1, h2⟩ := h; exact ⟨dx, vs, h1, h2.imp fun _ _ => RepC.off⟩
theorem SRel.with (s : SRel K fa x m H S) : SRel K (fa.with z) x m H S := ⟨s.nd, s.len, fun i a c e1 e2 => (s.cell i a c e1 e2).with, s.there⟩
theorem SRel.off' (s : SRel K (fa.with z) x m H S) : SRel K fa x m H S := ⟨s.nd, s.len, fun i a c e1 e2 => (s.cell i a c e1 e2).off, s.there⟩
theorem RepW.with (h0 : fa.lam = none) {v : V} {w : W} (h : RepW K fa F m v w) : RepW K (fa.with z) F m v w := by
  cases w with
  | d y => exact Rep.with _ _ h
  | r n => exact h
  | l => obtain ⟨f, c, q, F0, e, _⟩ := h; rw [h0] at e; cases e
theorem RepWs.with (h0 : fa.lam = none) : ∀ {vs : List V} {ws : List W}, RepWs K fa F m vs ws → RepWs K (fa.with z) F m vs ws
  | _, _, .nil => .nil
  | _, _, .cons h r => .cons (h.with h0) (RepWs.with h0 r)
theorem ExRel.off {e : Ex} {c : Value} {d : Option Addr} (h : ExRel K (fa.with z) F H e c d) : ExRel K fa F H e c d := by
  obtain ⟨h1, h2⟩ := h
  refine ⟨h1, ?_⟩
  cases ea : e.arg with
  | none => rw [ea] at h2; exact h2
  | some p =>
    rw [ea] at h2
    obtain ⟨dx, v, h3, h4, h5⟩ := h2
    exact ⟨dx, v, h3, h4, Rep.off _ _ h5⟩
/-- the callee, with a lambda, is left -/
theorem leave_with {keep : Bool} {sg : L2.St} {Wx : WX} {Q : VK} {r : Res W} (hl : m.length = S.length) (h : After K fa x m H sg Wx (relW K fa) Q (leave keep S.length r)) : FAfter K (fa.with z) x m H Q (WE Wx sg) r := by
  have h2 := leave_use hl h
  cases r with
  | bad => exact h2
  | exc e S' => exact fun c d m' H' st sr xr => h2 c d m' H' st sr.off' xr.off
  | ok w S' =>
    cases w with
    | d y => exact fun v m' H' st sr rw' => h2 v m' H' st sr.off' (Rep.off _ _ rw')
    | r n => exact fun v m' H' st sr rw' => h2 v m' H' st sr.off' rw'
    | l => exact (show False from h).elim
end
/-! ### a lambda is made -/
section
variable {X : Cx} {fa : FA} {pins : List (Addr × Obj)} {sg : L2.St} {H : Hp} {s : Shared} {x m : List Addr} {S : Stor}
theorem upd_swap {a b : Addr} {o u : HO} (h : a ≠ b) : upd (upd H a o) b u = upd (upd H b u) a o := by
  funext c
  by_cases h1 : c = a
  · subst h1
    rw [upd_ne h, upd_same, upd_same]
  · by_cases h2 : c = b
    · subst h2
      rw [upd_same, upd_ne h1, upd_same]
    · rw [upd_ne h2, upd_ne h1, upd_ne h1, upd_ne h2]
theorem lam_make {j : Nat} {c : Addr} {params : Arguments} {body : Expr} {scope : Scope} {pos : Pos} {E : Value → Shared → Prop} {Q : Value → Shared → Prop} (I : Inv X pins sg H s) (sr : SRel X.K fa x m H S) (hj : S[j]? = some (.tab (X.env.qual ++ "<lambda>")))
    (TB : LamX.TabB X.base X.mg c fa.P) (hcode : X.env.code = .ref c) (hdef : defaultsOf params X.env = ([], [])) (hfree : ∀ y ∈ scope.names, y.2 = .free → ∃ c, X.env.cells.lookup y.1 = some c)
    (h : ∀ (f c' : Addr) (pm ctv : Value) (H1 : Hp) (s' : Shared), Inv X pins sg H1 s' → Step m H m H1 → SRel X.K fa x m H1 S → s'.heap.get? f = some (PySem.W.kla_obj "<lambda>" (X.env.qual ++ "<lambda>") params body scope (cloFrom X.env.cells scope.names []) pm c' ctv) →
      s.heap.objs.size ≤ f → H1 f = none → fz (m ++ x) H1 c' = some (LamX.CodeO c' (X.env.qual ++ "<lambda>")) → Q (.ref f) s') :
    wpAny (model X.prog X.w) X.A (eval (.Lambda params body scope pos) X.env) Q E s := by
  obtain ⟨a, ha⟩ : ∃ a, m[j]? = some a := ⟨m[j]'(by rw [sr.len]; exact (List.getElem?_eq_some_iff.mp hj).1), List.getElem?_eq_getElem _⟩
  obtain ⟨e0, ps, hP, ht, hc⟩ := sr.cell j a _ ha hj
  subst e0
  have hm : fa.P ∈ m := List.mem_of_getElem? ha
  refine PySem.W.kla_eval hdef ?_
  have bP : s.heap.BuiltinsAt X.mg fa.P := TB.bm.keeps I.bk
  have hP' : s.heap.get? fa.P = some { cls := .none, data := .fields ps } := I.hok fa.P _ hP
  cases hx : codeAmong pos ps.toList with
  | some cv =>
    obtain ⟨c', e, hco⟩ := hc pos cv hx
    subst e
    refine PySem.W.kla_makeFunctionHit (mg := X.mg) (c := c) (P := fa.P) (ps := ps) (closure_ok hfree) I.ok.glob (I.mod.glob.keeps I.bk) hcode (TB.code.keeps I.bk) hP' ht hx bP fun ctv h' tk keep hsz => ?_
    exact h h'.objs.size c' ((X.mg "__name__").getD .none) ctv H _ (I.kept (t' := tk) fun b o e => Heap.get?_push_of_some _ (keep b o e)) (Step.refl _ _) sr (Heap.get?_push_size _ rfl) hsz (I.hok.fresh hsz) hco
  | none =>
    refine PySem.W.kla_makeFunction (mg := X.mg) (c := c) (P := fa.P) (ps := ps) (closure_ok hfree) I.ok.glob (I.mod.glob.keeps I.bk) hcode (TB.code.keeps I.bk) hP' ht hx TB.gP bP fun c' ctv h' tk but hge hlt hrec htb => ?_
    obtain ⟨c2, oc, vs, t, e2, hoc, hd, hv⟩ := hrec
    cases e2
    have hsz : s.heap.objs.size ≤ h'.objs.size := Nat.le_trans hge (Nat.le_of_lt hlt)
    have nC : H c' = none := I.hok.fresh hge
    have nPc : fa.P ≠ c' := ne_of_none hP nC
    have J := LamX.inv_table (t' := tk) (more := #[rawInt pos.line, rawInt pos.col, .ref c']) (h' := h'.push (PySem.W.kla_obj "<lambda>" (X.env.qual ++ "<lambda>") params body scope (cloFrom X.env.cells scope.names []) ((X.mg "__name__").getD .none) c' ctv)) I hP
      (fun b o hb e => Heap.get?_push_of_some _ (but b o hb e)) (Heap.get?_push_of_some _ htb) hge ⟨oc, vs, t, Heap.get?_push_of_some _ hoc, hd, hv⟩
    rw [upd_swap nPc] at J
    have o1 := sr.off nC
    have sr1 : SRel X.K fa x m (upd H c' (LamX.CodeO c' (X.env.qual ++ "<lambda>"))) S := sr.laid nC
    have st1 : Step m H m (upd H c' (LamX.CodeO c' (X.env.qual ++ "<lambda>"))) := Step.laid nC
    have inF : fz (m ++ x) (upd H c' (LamX.CodeO c' (X.env.qual ++ "<lambda>"))) c' = some (LamX.CodeO c' (X.env.qual ++ "<lambda>")) := fz_of (fun q => (List.mem_append.mp q).elim o1.1 o1.2) upd_same
    have eL : (ps ++ #[rawInt pos.line, rawInt pos.col, .ref c']).toList = ps.toList ++ [rawInt pos.line, rawInt pos.col, .ref c'] := by simp
    have sr2 := sr1.wroteC (o := .tbl (ps ++ #[rawInt pos.line, rawInt pos.col, .ref c'])) (c := .tab (X.env.qual ++ "<lambda>")) ha ⟨rfl, _, upd_same, by rw [eL]; exact PySem.TriplesOk_snoc _ _ _ _ ht, fun p' cv hcv => by
      rw [eL] at hcv
      rcases LamX.among_app _ ht hcv with q | q
      · obtain ⟨c0, k1, k2⟩ := hc p' cv q
        exact ⟨c0, k1, st1.fz _ _ k2⟩
      · exact ⟨c', q, inF⟩⟩
    have eS : S.set j (.tab (X.env.qual ++ "<lambda>")) = S := by
      apply List.ext_getElem?
      intro i
      by_cases hi : j = i
      · subst hi
        rw [List.getElem?_set_self (List.getElem?_eq_some_iff.mp hj).1, hj]
      · rw [List.getElem?_set_ne hi]
    rw [eS] at sr2
    have st2 := st1.trans (Step.wrote (o := .tbl (ps ++ #[rawInt pos.line, rawInt pos.col, .ref c'])) hm)
    refine h h'.objs.size c' ((X.mg "__name__").getD .none) ctv _ _ J st2 sr2 (Heap.get?_push_size _ rfl) hsz ?_ ?_
    · rw [upd_ne (fun e => Nat.lt_irrefl _ (Nat.lt_of_lt_of_le (Heap.lt_size hP') (by rw [← e]; exact hsz))), upd_ne (Nat.ne_of_gt hlt)]
      exact I.hok.fresh hsz
    · rw [fz_upd hm]
      exact inF
end
end DL
namespace DL
open PySem PySem.Spec PyProof.Rows L2 StX
/-- what stands at f does L, asked in s; F0: what stood frozen when it was made -/
def LamSt (P : Program) (w : World) (K : PySem.W.Frag) (mg : Str → Option Value) (base : Heap) (fa : FA) (k n : Nat) (f : Addr) (F0 : Hp) (L : Fn) (s : Shared) (H : Hp) : Prop :=
  ∀ (A : Around) (outer : List Env) (us : List Value) (vs : List V) (Q : VK) (E : XK) (x m : List Addr) (ws : List W) (S : Stor), Room k A → Env0 P w K mg base A outer s H → Vals vs us → vs.length = n → SRel K fa x m H S → RepWs K fa (fz (m ++ x) H) m vs ws → Same F0 (fz (m ++ x) H) →
    FAfter K fa x m H Q E (L ws S) → codeAny (model P w) A (.call (.ref f) ⟨us, []⟩) (CR (L2.CX P w) outer P w H s Q E) s
/-- the lambda that a def got does L, as long as the def runs -/
structure LamIn (P : Program) (w : World) (K : PySem.W.Frag) (mg : Str → Option Value) (base : Heap) (fa : FA) (k n : Nat) (s0 : Shared) (H0 : Hp) (fs ex : List Addr) (L : Option Fn) : Prop where
  at_ : ∀ f c q F0 F, fa.lam = some (f, c, q, F0) → L = some F → ∃ (oc : Value) (od : Option Addr) (fd : FuncData) (sl : Array (Option Value)), s0.heap.get? f = some ⟨oc, od, .func fd, sl⟩ ∧ H0 f = none ∧ f ∉ fs ∧ f ∉ ex ∧
    ∀ s1 H1, Un fs ex H0 H1 s0.heap s1.heap → H1 c = some (LamX.CodeO c q) → HOk P w H1 s1.heap → LamSt P w K mg base fa k n f F0 F s1 H1
theorem LamIn.no {P : Program} {w : World} {K : PySem.W.Frag} {mg : Str → Option Value} {base : Heap} {fa : FA} {k n : Nat} {s0 : Shared} {H0 : Hp} {fs ex : List Addr} : LamIn P w K mg base fa k n s0 H0 fs ex none := ⟨fun _ _ _ _ _ _ e => by cases e⟩
/-- a local name that holds a def or the lambda -/
def dLocL (keep : Bool) (i : Nat) (tab : Nat → Option Fn) (L : Option Fn) (fs : Den (List W)) : Den W := fun rho S => match rho[i]? with
  | some (some (.d (.fn j))) => match tab j with
    | some F => dFn keep F fs rho S
    | none => .bad
  | some (some .l) => match L with
    | some F => dFn keep F fs rho S
    | none => .bad
  | _ => .bad
section
variable {X : Cx} {fa : FA} {Wx : WX} {k n : Nat} {y : Str} {p pos : Pos} {e : Expr} {es : List Expr} {fs : Den (List W)} {F : Fn}
/-- as dfn_use; what was frozen stands yet -/
theorem dfn_use2 {ta : TA} (hl : ∀ rho S ws S1, fs rho S = .ok ws S1 → ws.length = n) (keep : Bool) (ha : ∀ sg H Q, T X.K fa Wx (fun F m vs ws => RepWs X.K fa F m vs ws) fs sg H Q → ta sg H Q) {sg : L2.St} {H : Hp} {Q : VK} {x m : List Addr} {rho : Rho} {S : Stor} (at_ : At X.K fa x m sg H rho S)
    (q : After X.K fa x m H sg Wx (relW X.K fa) Q (dFn keep F fs rho S)) : ta sg H fun vs H1 => ∃ m1 ws S1, Same (fz (m ++ x) H) (fz (m1 ++ x) H1) ∧ vs.length = n ∧ SRel X.K fa x m1 H1 S1 ∧ RepWs X.K fa (fz (m1 ++ x) H1) m1 vs ws ∧ FAfter X.K fa x m1 H1 Q (WE Wx sg) (F ws S1) := by
  refine ha sg H _ ⟨x, m, rho, S, at_, ?_⟩
  have q1 := After.then (rel := fun F m vs ws => RepWs X.K fa F m vs ws) q
  revert q1
  cases ef : fs rho S with
  | bad => exact fun z => z
  | exc e S1 => exact fun z => z
  | ok ws S1 =>
    intro q1 vs m1 H1 s1 t1 r1
    have q0 : After X.K fa x m H sg Wx (relW X.K fa) Q (leave keep S1.length (F ws S1)) := by
      have z := q
      unfold dFn at z
      rw [ef] at z
      exact z
    have q2 : After X.K fa x m1 H1 sg Wx (relW X.K fa) Q (leave keep S1.length (F ws S1)) := by
      revert q0
      cases leave keep S1.length (F ws S1) with
      | bad => exact id
      | exc e S2 => exact fun h c d m' H' s2 r2 x2 => h c d m' H' (s1.trans s2) r2 x2
      | ok w2 S2 => exact fun h v2 m' H' s2 r2 rw2 => h v2 m' H' (s1.trans s2) r2 rw2
    exact ⟨m1, ws, S1, s1.fz, (RepWs.length r1).trans (hl rho S ws S1 ef), t1, r1, leave_use t1.len q2⟩
theorem lam_called {f : Addr} {F0 : Hp} {pins : List (Addr × Obj)} {sg : L2.St} {H : Hp} {s : Shared} {us : List Value} {vs : List V} {Q : VK} {x m : List Addr} {ws : List W} {S : Stor} (st : LamSt X.prog X.w X.K X.mg X.base fa k n f F0 F s H) (hr : Room k X.A) (tk : Takes X Wx) (I : Inv X pins sg H s) (r : Vals vs us)
    (hn : vs.length = n) (sr : SRel X.K fa x m H S) (rw' : RepWs X.K fa (fz (m ++ x) H) m vs ws) (sm : Same F0 (fz (m ++ x) H)) (h : FAfter X.K fa x m H Q (WE Wx sg) (F ws S)) : wpAny (model X.prog X.w) X.A (call (.ref f) us) (EP X pins sg Q) X.xe s := by
  refine wpAny_call (codeAny_mono (st X.A X.stack us vs Q (WE Wx sg) x m ws S hr I.env0 r hn sr rw' sm h) fun r s' hq => ?_)
  cases r with
  | error e => exact passAt tk sg pins H s e s' I hq
  | ok fl =>
    cases fl with
    | ret u => exact I.after hq
    | next => exact False.elim hq
    | brk => exact False.elim hq
    | cont => exact False.elim hq
theorem de_locL (keep : Bool) {i : Nat} {tab : Nat → Option Fn} {L : Option Fn} {k' : Nat} (G : Tab X.prog X.w X.K X.mg X.base fa k n tab) (LI : LamIn X.prog X.w X.K X.mg X.base fa k' n X.s_0 X.H_0 X.fs X.ex L) (hr : Room k X.A) (hr' : Room k' X.A) (hN : X.N[i]? = some y) (hv : Vis X.env.scope y) (tk : Takes X Wx)
    (ha : DA X fa Wx (e :: es) fs) (hl : ∀ rho S ws S1, fs rho S = .ok ws S1 → ws.length = n) (hdb : (y == ("__debug__" : Str)) = false := by decide) (hcd : (y == ("__classdict__" : Str)) = false := by decide)
    (he : starEach (e :: es) X.env = (false, eval e X.env) :: starEach es X.env := by rfl) (hpl : (backTo pos (starEach es X.env)).any (·.1) = false := by rfl) : DE X fa Wx (.Call (.Name y p) (e :: es) [] pos) (dLocL keep i tab L fs) := by
  refine ⟨fun pins s sg H Q I ⟨x, m, rho, S, at_, q⟩ => ?_⟩
  cases ej : rho[i]? with
  | none => unfold dLocL at q; rw [ej] at q; exact q.elim
  | some o =>
    cases o with
    | none => unfold dLocL at q; rw [ej] at q; exact q.elim
    | some w =>
      cases w with
      | r j => unfold dLocL at q; rw [ej] at q; exact q.elim
      | d d =>
        refine (de_loc keep G hr hN hv tk ha hl hdb hcd he hpl).run pins s sg H Q I ⟨x, m, rho, S, at_, ?_⟩
        unfold dLocL at q
        unfold dLoc
        rw [ej] at q ⊢
        cases d <;> exact q
      | l =>
        unfold dLocL at q
        rw [ej] at q
        cases hL : L with
        | none => rw [hL] at q; exact q.elim
        | some F =>
          rw [hL] at q
          have q : After X.K fa x m H sg Wx (relW X.K fa) Q (dFn keep F fs rho S) := q
          obtain ⟨v, h1, f, c, q0, F0, e1, ev, hc, sm⟩ := at_.e.get i _ ej
          subst ev
          obtain ⟨oc, od, fd, sl, g1, g2, g3, g4, g5⟩ := LI.at_ f c q0 F0 F e1 hL
          have stands : ∀ {pins : List (Addr × Obj)} {sg : L2.St} {H' : Hp} {s' : Shared}, Inv X pins sg H' s' → s'.heap.get? f = some ⟨oc, od, .func fd, sl⟩ := fun J => J.base.keep f _ g1 g2 g3 g4
          refine wpAny_Call_Name_kw (thn ((pe_var (pos := p) hN hv hdb hcd).run pins s sg H (fun v H1 => v = .ref f ∧ H1 = H) I ⟨_, h1, rfl, rfl⟩) fun u s1 ⟨v, H1, I1, r1, q1⟩ => ?_)
          obtain ⟨rfl, rfl⟩ := q1
          cases r1
          refine PySem.W.callWith_F ⟨_, _, _, _, stands I1⟩ (thn (ha.run pos pins s1 sg _ _ I1 (dfn_use2 (n := n) hl keep (fun _ _ _ q => q) at_ q)) fun us s2 ⟨vs, H2, I2, r, m2, ws, S2, sm2, z1, z2, z3, z4⟩ => ⟨⟨_, _, _, _, stands I2⟩, ?_⟩) he hpl
          have sm3 : Same F0 (fz (m2 ++ x) H2) := fun b o z => sm2 _ _ (sm b o z)
          exact lam_called (g5 s2 H2 I2.base (fz_sub _ _ (sm3 _ _ hc)) I2.hok) hr' tk I2 r z1 z2 z3 sm3 z4
/-- .. called without arguments -/
theorem de_locL0 (keep : Bool) {i : Nat} {L : Option Fn} {k' : Nat} (LI : LamIn X.prog X.w X.K X.mg X.base fa k' 0 X.s_0 X.H_0 X.fs X.ex L) (hr' : Room k' X.A) (hN : X.N[i]? = some y) (hv : Vis X.env.scope y) (tk : Takes X Wx)
    (hdb : (y == ("__debug__" : Str)) = false := by decide) (hcd : (y == ("__classdict__" : Str)) = false := by decide) : DE X fa Wx (.Call (.Name y p) [] [] pos) (dLocL keep i (fun _ => none) L dNil) := by
  refine ⟨fun pins s sg H Q I ⟨x, m, rho, S, at_, q⟩ => ?_⟩
  cases ej : rho[i]? with
  | none => unfold dLocL at q; rw [ej] at q; exact q.elim
  | some o =>
    cases o with
    | none => unfold dLocL at q; rw [ej] at q; exact q.elim
    | some w =>
      cases w with
      | r j => unfold dLocL at q; rw [ej] at q; exact q.elim
      | d d =>
        unfold dLocL at q
        rw [ej] at q
        cases d <;> exact q.elim
      | l =>
        unfold dLocL at q
        rw [ej] at q
        cases hL : L with
        | none => rw [hL] at q; exact q.elim
        | some F =>
          rw [hL] at q
          have q : After X.K fa x m H sg Wx (relW X.K fa) Q (dFn keep F dNil rho S) := q
          obtain ⟨v, h1, f, c, q0, F0, e1, ev, hc, sm⟩ := at_.e.get i _ ej
          subst ev
          obtain ⟨oc, od, fd, sl, g1, g2, g3, g4, g5⟩ := LI.at_ f c q0 F0 F e1 hL
          have stands : ∀ {pins : List (Addr × Obj)} {sg : L2.St} {H' : Hp} {s' : Shared}, Inv X pins sg H' s' → s'.heap.get? f = some ⟨oc, od, .func fd, sl⟩ := fun J => J.base.keep f _ g1 g2 g3 g4
          refine wpAny_Call_Name_kw (thn ((pe_var (pos := p) hN hv hdb hcd).run pins s sg H (fun v H1 => v = .ref f ∧ H1 = H) I ⟨_, h1, rfl, rfl⟩) fun u s1 ⟨v, H1, I1, r1, q1⟩ => ?_)
          obtain ⟨rfl, rfl⟩ := q1
          cases r1
          have z : ∃ m1 ws S1, Same (fz (m ++ x) H1) (fz (m1 ++ x) H1) ∧ ([] : List V).length = 0 ∧ SRel X.K fa x m1 H1 S1 ∧ RepWs X.K fa (fz (m1 ++ x) H1) m1 [] ws ∧ FAfter X.K fa x m1 H1 Q (WE Wx sg) (F ws S1) := by
            have z := dfn_use2 (X := X) (n := 0) (F := F) (ta := T X.K fa Wx (fun F m vs ws => RepWs X.K fa F m vs ws) dNil) len_nil keep (fun _ _ _ q => q) at_ q
            refine ⟨m, [], S, fun _ _ z => z, rfl, at_.s, .nil, ?_⟩
            exact leave_use at_.s.len q
          obtain ⟨m2, ws, S2, sm2, z1, z2, z3, z4⟩ := z
          have sm3 : Same F0 (fz (m2 ++ x) H1) := fun b o z => sm2 _ _ (sm b o z)
          exact PySem.W.callWith_F0 ⟨_, _, _, _, stands I1⟩ (lam_called (us := []) (g5 s1 H1 I1.base (fz_sub _ _ (sm3 _ _ hc)) I1.hok) hr' tk I1 .nil z1 z2 z3 sm3 z4)
end
end DL
namespace DL
open PySem PySem.Spec PyProof.Rows L2 StX
/-! ### a def that may get a lambda -/
def GFn (P : Program) (w : World) (K : PySem.W.Frag) (mg : Str → Option Value) (base : Heap) (fa : FA) (k kl nl n : Nat) (g : Addr) (fd : FuncData) (ps : List Str) (FL : Option Fn → Fn) : Prop :=
  ∀ (L : Option Fn) (A : Around) (outer : List Env) (s : Shared) (H : Hp) (args : Args) (us : List Value) (vs : List V) (Q : VK) (E : XK), Room k A → Env0 P w K mg base A outer s H → BindsTo s fd args (ps.zip us) → Vals vs us →
    LamIn P w K mg base fa kl nl s H (frs outer) [] L → vs.length = ps.length → spD K fa n (FL L) vs H Q E → codeAny (model P w) A (.call (.ref g) args) (CR (L2.CX P w) outer P w H s Q E) s
section
variable {P : Program} {w : World} {K : PySem.W.Frag} {mg : Str → Option Value} {base : Heap} {fa : FA}
theorem def_okL {x qual : Str} {st : Stmt} {f : Addr} {fd : FuncData} {N ps : List Str} {k kl nl n : Nat} {body : Option Fn → SD} (F : Fun K x qual st f fd) (Sc : FnScope N ps (defScope st)) (hn : ps.length = n)
    (hb : ∀ (L : Option Fn) (cdv : Value) (A : Around) (outer : List Env) (s : Shared) (H : Hp) (E : XK), Room k (A.deeper (envOfC qual (defScope st) s.heap.objs.size f cdv)) → LamIn P w K mg base fa kl nl s H (frs outer) [] L →
      DSs (cxOf (L2.CX P w) P w K mg base N qual (defScope st) f cdv A outer s H E) fa (wDef E) (defBody st) (body L)) : GFn P w K mg base fa (k + 1) kl nl n f fd ps fun L => runDef N.length (body L) := by
  intro L A outer s H args us vs Q E hr e0 bd r LI hl h
  obtain ⟨oc, od, kV, doc, pm, an, cdv, ct, osl, rfl, lk, hcd⟩ := F.ex
  refine LamX.run_ofS lk hcd Sc hr e0 bd r hl fun hr' => ?_
  obtain ⟨hl2, y, m, ws, S, sr, rw', q⟩ := h
  refine ⟨_, hb L cdv A outer s H E hr' LI, y, m, ws.map some ++ List.replicate (N.length - ws.length) none, S, ⟨sr, ERel.start N rw'⟩, ?_⟩
  have q : FAfter K fa y m H Q E (runDef N.length (body L) ws S) := q
  unfold runDef at q
  cases eb : body L (ws.map some ++ List.replicate (N.length - ws.length) none) S with
  | nx r S' => rw [eb] at q; exact fun sg' m' H' s' a => q .non m' H' s' a.s .non
  | rt w' S' => rw [eb] at q; exact q
  | bk r S' => rw [eb] at q; exact (show False from q).elim
  | ct r S' => rw [eb] at q; exact (show False from q).elim
  | exc e r S' => rw [eb] at q; exact fun c d sg' m' H' s' a x => q c d m' H' s' a.s x
  | bad => rw [eb] at q; exact q
theorem GFn.fnOk {f : Addr} {fd : FuncData} {ps : List Str} {k kl nl n : Nat} {FL : Option Fn → Fn} (G : GFn P w K mg base fa k kl nl n f fd ps FL) (hn : ps.length = n) : FnOk P w K mg base (L2.CX P w) k f fd ps (spD K fa n (FL none)) :=
  ⟨fun vs H Q E h => h.1.trans hn.symm, fun A outer s H args us vs Q E hr e0 bd r h => G none A outer s H args us vs Q E hr e0 bd r .no (h.1.trans hn.symm) h⟩
end
/-! ### g(lambda ..: .., e, ..) -/
def dLamCall (keep : Bool) (j : Nat) (q : Str) (FL : Option Fn → Fn) (Lf : Rho → Fn) (fs : Den (List W)) : Den W := fun rho S => match S[j]? with
  | some (.tab q') => if q' = q then (fs rho S).bind fun ws S1 => leave keep S1.length (FL (some (Lf rho)) (.l :: ws) S1) else .bad
  | _ => .bad
section
variable {X : Cx} {fa : FA} {Wx : WX} {k kl nl n j : Nat} {x q : Str} {p pos lpos : Pos} {g c : Addr} {fd : FuncData} {ps : List Str} {es : List Expr} {fs : Den (List W)} {FL : Option Fn → Fn} {Lf : Rho → Fn} {params : Arguments} {body : Expr} {scope : Scope}
theorem de_lamCall (keep : Bool) (hg : Gl X x) (hm : X.mg x = some (.ref g)) (hk : PySem.W.keepIn X.K (.ref g) = true) (hb : Binds X.K fd ps []) (hps : ps.length = n + 1) (G : ∀ z, GFn X.prog X.w X.K X.mg X.base (fa.with z) k kl nl (n + 1) g fd ps FL) (hr : Room k X.A) (hl0 : fa.lam = none)
    (TB : LamX.TabB X.base X.mg c fa.P) (hcode : X.env.code = .ref c) (hq : X.env.qual ++ "<lambda>" = q) (hdef : defaultsOf params X.env = ([], [])) (hfree : X.Ok → ∀ y ∈ scope.names, y.2 = .free → ∃ c, X.env.cells.lookup y.1 = some c)
    (hlam : ∀ (pins : List (Addr × Obj)) (sg : L2.St) (H : Hp) (s : Shared) (x m : List Addr) (rho : Rho) (S : Stor), Inv X pins sg H s → At X.K fa x m sg H rho S → ∀ (f c' : Addr) (pm ctv : Value), s.heap.get? f = some (PySem.W.kla_obj "<lambda>" q params body scope (cloFrom X.env.cells scope.names []) pm c' ctv) →
      H f = none → f ∉ frs X.stack → ∀ s1 H1 z, Un (frs X.stack) [] H H1 s.heap s1.heap → H1 c' = some (LamX.CodeO c' q) → HOk X.prog X.w H1 s1.heap → LamSt X.prog X.w X.K X.mg X.base (fa.with z) kl nl f (fz (m ++ x) H) (Lf rho) s1 H1)
    (ha : DA X fa Wx es fs) (hlen : ∀ rho S ws S1, fs rho S = .ok ws S1 → ws.length = n) (tk : Takes X Wx) (hdb : (x == ("__debug__" : Str)) = false := by decide)
    (he : starEach (.Lambda params body scope lpos :: es) X.env = (false, eval (.Lambda params body scope lpos) X.env) :: starEach es X.env := by rfl) (hpl : (backTo pos (starEach es X.env)).any (·.1) = false := by rfl) :
    DE X fa Wx (.Call (.Name x p) (.Lambda params body scope lpos :: es) [] pos) (dLamCall keep j q FL Lf fs) := by
  refine ⟨fun pins s sg H Q I ⟨x0, m, rho, S, at_, h⟩ => ?_⟩
  unfold dLamCall at h
  cases ej : S[j]? with
  | none => rw [ej] at h; exact h.elim
  | some cl =>
    rw [ej] at h
    cases cl with
    | lst _ => exact h.elim
    | set _ => exact h.elim
    | dk _ => exact h.elim
    | dn _ => exact h.elim
    | obj _ _ => exact h.elim
    | tab q' =>
      dsimp only at h
      by_cases e1 : q' = q
      · rw [if_pos e1] at h
        subst e1
        refine wpAny_Call_Name_kw (ld_glob I hg hm ?_ hdb)
        refine PySem.W.callWith_K (h₀ := X.base) I.ok.mod.kin hk ?_ he hpl
        rw [he]
        show wpAny _ _ (spliced ((false, eval (.Lambda params body scope lpos) X.env) :: backTo pos (starEach es X.env))) _ _ s
        refine Calls.spliced_cons (lam_make (j := j) I at_.s (by rw [hq]; exact ej) TB hcode hdef (hfree I.ok) fun f c' pm ctv H1 s1 I1 st1 sr1 hf hsz hn hco => ?_)
        rw [hq] at hf hco
        have hlt : X.env.locals < s.heap.objs.size := I.lt
        have offX : f ≠ X.env.locals ∧ f ∉ X.fs := ⟨fun e => Nat.lt_irrefl _ (Nat.lt_of_lt_of_le (e ▸ hlt) hsz), I.nofs hsz⟩
        have I1' : Inv X ((f, PySem.W.kla_obj "<lambda>" q' params body scope (cloFrom X.env.cells scope.names []) pm c' ctv) :: pins) sg H1 s1 := I1.pins_of fun r hr => by
          rcases List.mem_cons.mp hr with rfl | hr
          · exact ⟨hf, hn, offX.1, offX.2, fun v e => by cases e⟩
          · exact I1.pin r (List.mem_append_right _ hr)
        have at1 := at_.step st1 sr1
        -- the arguments
        have h1 : After X.K fa x0 m H1 sg Wx (relW X.K fa) Q ((fs rho S).bind fun ws S1 => leave keep S1.length (FL (some (Lf rho)) (.l :: ws) S1)) := by
          revert h
          cases (fs rho S).bind fun ws S1 => leave keep S1.length (FL (some (Lf rho)) (.l :: ws) S1) with
          | bad => exact id
          | exc e S2 => exact fun h c d m' H' s2 r2 x2 => h c d m' H' (st1.trans s2) r2 x2
          | ok w2 S2 => exact fun h v2 m' H' s2 r2 rw2 => h v2 m' H' (st1.trans s2) r2 rw2
        have args : T X.K fa Wx (fun F m vs ws => RepWs X.K fa F m vs ws) fs sg H1 fun vs H2 => ∃ m2 ws S2, Step m H1 m2 H2 ∧ SRel X.K fa x0 m2 H2 S2 ∧ RepWs X.K fa (fz (m2 ++ x0) H2) m2 vs ws ∧ ws.length = n ∧ After X.K fa x0 m2 H2 sg Wx (relW X.K fa) Q (leave keep S2.length (FL (some (Lf rho)) (.l :: ws) S2)) := by
          refine ⟨x0, m, rho, S, at1, ?_⟩
          revert h1
          cases ef : fs rho S with
          | bad => exact fun z => z
          | exc e S1 => exact fun z => z
          | ok ws S1 =>
            intro h1 vs m2 H2 s2 t2 r2
            refine ⟨m2, ws, S1, s2, t2, r2, hlen rho S ws S1 ef, ?_⟩
            have h1 : After X.K fa x0 m H1 sg Wx (relW X.K fa) Q (leave keep S1.length (FL (some (Lf rho)) (.l :: ws) S1)) := h1
            revert h1
            cases leave keep S1.length (FL (some (Lf rho)) (.l :: ws) S1) with
            | bad => exact id
            | exc e S2 => exact fun h c d m' H' s3 r3 x3 => h c d m' H' (s2.trans s3) r3 x3
            | ok w2 S2 => exact fun h v2 m' H' s3 r3 rw3 => h v2 m' H' (s2.trans s3) r3 rw3
        refine thn (ha.run pos _ s1 sg H1 _ I1' args) fun us s2 ⟨vs, H2, I2, r, m2, ws, S2, st2, sr2, rw2, hwl, h2⟩ => ⟨I2.kIn, ?_⟩
        obtain ⟨pf, pn, pl, po, _⟩ := I2.pin (f, PySem.W.kla_obj "<lambda>" q' params body scope (cloFrom X.env.cells scope.names []) pm c' ctv) (List.mem_append_right _ List.mem_cons_self)
        have hst : f ∉ frs X.stack := fun z => (List.mem_cons.mp (I2.stkSub f z)).elim pl po
        have J : Inv X pins sg H2 s2 := I2.pins_of fun r hr => I2.pin r (List.mem_append_right _ (List.mem_cons_of_mem _ hr))
        have at2 := at1.step st2 sr2
        have hco2 : fz (m2 ++ x0) H2 c' = some (LamX.CodeO c' q') := st2.fz _ _ hco
        have LI : LamIn X.prog X.w X.K X.mg X.base (fa.with (some (f, c', q', fz (m2 ++ x0) H2))) kl nl s2 H2 (frs X.stack) [] (some (Lf rho)) := ⟨fun f2 c2 q2 F2 L2 e1 e2 => by
          cases e1
          cases e2
          exact ⟨_, _, _, _, pf, pn, hst, by simp, fun s3 H3 un hc3 ok3 => hlam _ sg H2 s2 x0 m2 rho S2 I2 at2 f c' pm ctv pf pn hst s3 H3 _ un hc3 ok3⟩⟩
        have hvl := RepWs.length rw2
        have bd := hb s2 (.ref f :: us) I2.kIn (by rw [List.append_nil, List.length_cons, hps, ← r.length, hvl, hwl])
        rw [List.append_nil] at bd
        have run := G (some (f, c', q', fz (m2 ++ x0) H2)) (some (Lf rho)) X.A X.stack s2 H2 ⟨.ref f :: us, []⟩ (.ref f :: us) (.ref f :: vs) Q (WE Wx sg) hr I2.env0 bd (.cons rfl r) LI (by rw [List.length_cons, hvl, hwl, hps])
          ⟨by rw [List.length_cons, hvl, hwl], x0, m2, .l :: ws, S2, sr2.with, .cons ⟨f, c', q', _, rfl, rfl, hco2, fun _ _ z => z⟩ (rw2.with hl0), leave_with sr2.len h2⟩
        refine wpAny_call (codeAny_mono run fun r s' hq => ?_)
        cases r with
        | error e => exact passAt tk sg pins H2 s2 e s' J hq
        | ok fl =>
          cases fl with
          | ret u => exact J.after hq
          | next => exact False.elim hq
          | brk => exact False.elim hq
          | cont => exact False.elim hq
      · rw [if_neg e1] at h
        exact h.elim
end
end DL
namespace DL
open PySem PySem.Spec PyProof.Rows L2 StX
/-! ### what a lambda that captures nothing does -/
def runExp (n : Nat) (d : Den W) : Fn := fun ws S => d (ws.map some ++ List.replicate (n - ws.length) none) S
theorem clo_none {cells : List (Str × Addr)} {names : List (Str × NameKind)} (h : ∀ y ∈ names, y.2 ≠ .free) : cloFrom cells names [] = [] := by
  cases e : cloFrom cells names [] with
  | nil => rfl
  | cons p r =>
    have hm : (p.1, p.2) ∈ cloFrom cells names [] := by rw [e]; exact List.mem_cons_self
    rcases cloFrom_mem hm with z | ⟨z, _⟩
    · cases z
    · exact absurd rfl (h _ z)
section
variable {P : Program} {w : World} {K : PySem.W.Frag} {mg : Str → Option Value} {base : Heap} {fa : FA}
theorem lam_plain {N ps : List Str} {scope : Scope} {params : Arguments} {body : Expr} {q : Str} {k n : Nat} {d : Den W} (Sc : FnScope N ps scope) (hn : ps.length = n)
    (hbind : ∀ (cl : List (Str × Addr)) (pm c ctv : Value) (us : List Value), us.length = n → bindArgs (PySem.W.kla_fn "<lambda>" q params body scope cl pm c ctv) ⟨us, []⟩ = pure (ps.zip us))
    (hb : ∀ (c f : Addr) (A : Around) (outer : List Env) (s : Shared) (H : Hp) (E : XK), Room k (A.deeper (envOfC q scope s.heap.objs.size f (.ref c))) → DE (cxOf (L2.CX P w) P w K mg base N q scope f (.ref c) A outer s H E) fa (wDef E) body d)
    {f c : Addr} {pm ctv : Value} {F0 : Hp} {s : Shared} {H : Hp} {cells : List (Str × Addr)} (hf : s.heap.get? f = some (PySem.W.kla_obj "<lambda>" q params body scope (cloFrom cells scope.names []) pm c ctv)) (hc : H c = some (LamX.CodeO c q)) (hok : HOk P w H s.heap) :
    LamSt P w K mg base fa (k + 1) n f F0 (runExp N.length d) s H := by
  intro A outer us vs Q E x m ws S hr e0 r hl sr rw' _ h
  obtain ⟨⟨oc, es, t, hoc, hdc, hvc⟩, _, _⟩ := hok c _ hc
  rw [clo_none Sc.nofree] at hf
  have lim : s.heap.NoLimit := e0.mod.nolimit.keeps fun b o e => (e0.bs b o e).1
  have hul : us.length = n := by rw [← r.length]; exact hl
  have hkind : ∀ y ∈ ps.zip us, scope.names.lookup y.1 = some .local ∨ (scope.names.lookup y.1 = some .cell ∧ ((cellsFrom (s.heap.objs.size + 1) scope.names []).lookup y.1).isSome = true) := fun ⟨a, v⟩ hy => by
    rcases Sc.par a (List.of_mem_zip hy).1 with z | z
    · exact .inl z
    · exact .inr ⟨z, PySem.W.cellsFrom_some _ _ _ (.inl z)⟩
  refine PySem.W.kla_callFunE hr.depth hf rfl Sc.co Sc.gen rfl ⟨c, oc, es, t, rfl, hoc, hdc, hvc⟩ ?_
  rw [hbind _ _ _ _ us hul]
  refine wpAny_pure (wpAny_newFunctionEnv_cells Sc.kind hkind fun env he s1 y => ?_)
  subst he
  refine ⟨lim.keeps y.toInCall.keep, ?_⟩
  show codeAny _ _ (.expr body (envOfC q scope s.heap.objs.size f (.ref c))) _ _
  have I : Inv (cxOf (L2.CX P w) P w K mg base N q scope f (.ref c) A outer s H E) [] (L2.start N vs) H s1 := inv_start Sc hr.hd e0 (by rw [hl, hn]) r y
  have h2 : T K fa (wDef E) (relW K fa) d (L2.start N vs) H Q := by
    refine ⟨x, m, ws.map some ++ List.replicate (N.length - ws.length) none, S, ⟨sr, ERel.start N rw'⟩, ?_⟩
    unfold runExp at h
    revert h
    cases d (ws.map some ++ List.replicate (N.length - ws.length) none) S with
    | bad => exact id
    | exc e S' => exact id
    | ok w' S' => exact id
  refine PySem.W.kla_codeExpr (wpAny_mono ((hb c f A outer s H E (hr.deeper _)).run [] s1 (L2.start N vs) H Q I h2) (fun v s' hs => ?_) fun e s' hs => hs)
  obtain ⟨v', H', J, rv, q'⟩ := hs
  exact ⟨v', H', J.os, J.bare, J.base, J.hok, rv, q'⟩
/-! ### a def whose code object is known -/
structure FunC (K : PySem.W.Frag) (x qual : Str) (st : Stmt) (f c : Addr) (fd : FuncData) : Prop where
  ex : ∃ (oc : Value) (od : Option Addr) (kV doc pm : Value) (an : Option Addr) (ct : Value) (osl : Array (Option Value)),
    fd = PySem.W.fnOf x qual (defArgs st) (defBody st) (defScope st) .none kV doc pm an (.ref c) ct ∧ K.lookup f = some ⟨oc, od, .func fd, osl⟩ ∧ PySem.W.codeIn K (.ref c) qual = true
theorem def_okC {x qual : Str} {st : Stmt} {f c : Addr} {fd : FuncData} {N ps : List Str} {k n : Nat} {body : SD} (F : FunC K x qual st f c fd) (Sc : FnScope N ps (defScope st)) (hn : ps.length = n)
    (hb : ∀ (A : Around) (outer : List Env) (s : Shared) (H : Hp) (E : XK), Room k (A.deeper (envOfC qual (defScope st) s.heap.objs.size f (.ref c))) →
      DSs (cxOf (L2.CX P w) P w K mg base N qual (defScope st) f (.ref c) A outer s H E) fa (wDef E) (defBody st) body) : FnOk P w K mg base (L2.CX P w) (k + 1) f fd ps (spD K fa n (runDef N.length body)) := by
  obtain ⟨oc, od, kV, doc, pm, an, ct, osl, rfl, lk, hcd⟩ := F.ex
  refine fn_of lk hcd Sc (fun vs H Q E h => h.1.trans hn.symm) fun A outer s H vs Q E hr h => ?_
  obtain ⟨hl, y, m, ws, S, sr, rw', q⟩ := h
  refine ⟨_, hb A outer s H E hr, y, m, ws.map some ++ List.replicate (N.length - ws.length) none, S, ⟨sr, ERel.start N rw'⟩, ?_⟩
  unfold runDef at q
  cases eb : body (ws.map some ++ List.replicate (N.length - ws.length) none) S with
  | nx r S' => rw [eb] at q; exact fun sg' m' H' s' a => q .non m' H' s' a.s .non
  | rt w' S' => rw [eb] at q; exact q
  | bk r S' => rw [eb] at q; exact (show False from q).elim
  | ct r S' => rw [eb] at q; exact (show False from q).elim
  | exc e r S' => rw [eb] at q; exact fun c d sg' m' H' s' a x => q c d m' H' s' a.s x
  | bad => rw [eb] at q; exact q
end
end DL
namespace DL
open PySem PySem.Spec PyProof.Rows L2 StX
section
variable {X : Cx} {fa : FA} {Wx : WX} {k kl nl n j : Nat} {x q y : Str} {p pos lpos : Pos} {g c : Addr} {fd : FuncData} {ps : List Str} {es : List Expr} {fs : Den (List W)} {FL : Option Fn → Fn} {params : Arguments} {body : Expr} {scope : Scope}
/-- g(lambda a, ..: e, ..), the lambda capturing nothing -/
theorem de_lamPlain (keep : Bool) {N ps' : List Str} {d : Den W} (hg : Gl X x) (hm : X.mg x = some (.ref g)) (hk : PySem.W.keepIn X.K (.ref g) = true) (hb : Binds X.K fd ps []) (hps : ps.length = n + 1) (G : ∀ z, GFn X.prog X.w X.K X.mg X.base (fa.with z) k (kl + 1) nl (n + 1) g fd ps FL)
    (hr : Room k X.A) (hl0 : fa.lam = none) (TB : LamX.TabB X.base X.mg c fa.P) (hcode : X.env.code = .ref c) (hq : X.env.qual ++ "<lambda>" = q) (hdef : defaultsOf params X.env = ([], [])) (Sc : FnScope N ps' scope) (hn : ps'.length = nl)
    (hbind : ∀ (cl : List (Str × Addr)) (pm c ctv : Value) (us : List Value), us.length = nl → bindArgs (PySem.W.kla_fn "<lambda>" q params body scope cl pm c ctv) ⟨us, []⟩ = pure (ps'.zip us))
    (hbody : ∀ (z : Option (Addr × Addr × Str × Hp)) (c f : Addr) (A : Around) (outer : List Env) (s : Shared) (H : Hp) (E : XK), Room kl (A.deeper (envOfC q scope s.heap.objs.size f (.ref c))) →
      DE (cxOf (L2.CX X.prog X.w) X.prog X.w X.K X.mg X.base N q scope f (.ref c) A outer s H E) (fa.with z) (wDef E) body d)
    (ha : DA X fa Wx es fs) (hlen : ∀ rho S ws S1, fs rho S = .ok ws S1 → ws.length = n) (tk : Takes X Wx) (hdb : (x == ("__debug__" : Str)) = false := by decide)
    (he : starEach (.Lambda params body scope lpos :: es) X.env = (false, eval (.Lambda params body scope lpos) X.env) :: starEach es X.env := by rfl) (hpl : (backTo pos (starEach es X.env)).any (·.1) = false := by rfl) :
    DE X fa Wx (.Call (.Name x p) (.Lambda params body scope lpos :: es) [] pos) (dLamCall keep j q FL (fun _ => runExp N.length d) fs) :=
  de_lamCall keep hg hm hk hb hps G hr hl0 TB hcode hq hdef (fun _ y hy e => absurd e (Sc.nofree y hy))
    (fun pins sg H s x m rho S I at_ f c' pm ctv hf hnf hst s1 H1 z un hc hok => lam_plain Sc hn hbind (hbody z) (un.keep f _ hf hnf hst (fun z => nomatch z)) hc hok) ha hlen tk hdb he hpl
theorem de_gintE {i : Int} (hg : Gl X y) (hm : ∃ t, X.mg y = some (.int i t)) (hdb : (y == ("__debug__" : Str)) = false := by decide) : DE X fa Wx (.Name y p) (dC (.int i)) := hm.elim fun _ h => de_gint hg h hdb
end
end DL
namespace DL
open PySem PySem.Spec PyProof.Rows L2 StX
/-! ### a def called with values alone: it runs on a store of its own -/
mutual
def noLst : D → Bool
  | .tup xs => noLsts xs
  | .lst _ => false
  | .non => true
  | .bl _ => true
  | .int _ => true
  | .str _ => true
  | .fn _ => true
  | .ty _ => true
def noLsts : List D → Bool
  | [] => true
  | x :: xs => noLst x && noLsts xs
end
def snap (S : Stor) : List W → Option (List D)
  | [] => some []
  | .d y :: ws => (snap S ws).map (y :: ·)
  | .r n :: ws => match S[n]? with
    | some (.lst xs) => (snap S ws).map (.lst xs :: ·)
    | _ => none
  | .l :: _ => none
def allD : List W → Bool
  | [] => true
  | .d _ :: ws => allD ws
  | _ :: _ => false
def exOk (lax : Bool) (e : Ex) : Bool := lax || match e.arg with
  | none => true
  | some p => noLst p.2
def endP (lax : Bool) (S1 : Stor) : Res W → Res W
  | .ok (.d y) _ => if (lax || noLst y) = true then .ok (.d y) S1 else .bad
  | .ok (.r k) S' => match S'[k]? with
    | some (.lst xs) => if (lax || noLsts xs) = true then .ok (.d (.lst xs)) S1 else .bad
    | _ => .bad
  | .ok .l _ => .bad
  | .exc e _ => if exOk lax e = true then .exc e S1 else .bad
  | .bad => .bad
def dFnP (F : Fn) (fs : Den (List W)) : Den W := fun rho S => (fs rho S).bind fun ws S1 => match snap S1 ws with
  | some ds => endP (allD ws) S1 (F (ds.map W.d) [])
  | none => .bad
section
variable {K : PySem.W.Frag} {fa : FA} {F F' : Hp}
mutual
theorem Rep.monoT (e : ∀ b xs, (F b = some (.tup xs) ∨ ∃ o, F b = some (.frz o (.tup xs))) → F' b = F b) : ∀ (d : D) (v : V), noLst d = true → Rep K fa F v d → Rep K fa F' v d
  | .non, _, _, .non => .non
  | .bl _, _, _, .bl b => .bl b
  | .int _, _, _, .int i => .int i
  | .str _, _, _, .str x => .str x
  | .tup ds, _, n, .tup h r => .tup (by
      rcases h with h | h
      · have q := e _ _ h
        left
        rcases h with h | ⟨o, h⟩
        · exact .inl (q.trans h)
        · exact .inr ⟨o, q.trans h⟩
      · exact .inr h) (RepL.monoT e ds _ (by rw [noLst] at n; exact n) r)
  | .fn _, _, _, .fn n => .fn n
  | .ty _, _, _, .ty t => .ty t
theorem RepL.monoT (e : ∀ b xs, (F b = some (.tup xs) ∨ ∃ o, F b = some (.frz o (.tup xs))) → F' b = F b) : ∀ (ds : List D) (vs : List V), noLsts ds = true → RepL K fa F vs ds → RepL K fa F' vs ds
  | [], _, _, .nil => .nil
  | d :: ds, _, n, .cons h r => by
    rw [noLsts, Bool.and_eq_true] at n
    exact .cons (Rep.monoT e d _ n.1 h) (RepL.monoT e ds _ n.2 r)
end
end
/-- the addresses of what is handed over -/
def refsOf (m : List Addr) : List W → List Addr
  | [] => []
  | .r n :: ws => match m[n]? with
    | some a => a :: refsOf m ws
    | none => refsOf m ws
  | _ :: ws => refsOf m ws
theorem refs_none (m : List Addr) : ∀ {ws : List W}, allD ws = true → refsOf m ws = []
  | [], _ => rfl
  | .d _ :: ws, h => by
    rw [refsOf]
    · exact refs_none m (by simpa [allD] using h)
    · intro n z; cases z
section
variable {X : Cx} {fa : FA} {Wx : WX}
theorem refs_cell {K : PySem.W.Frag} {x m : List Addr} {H : Hp} {S : Stor} (s : SRel K fa x m H S) : ∀ {ws : List W} {ds : List D}, snap S ws = some ds → ∀ a ∈ refsOf m ws, a ∈ m ∧ ∃ vs, H a = some (.lst vs)
  | [], _, _, a, h => by cases h
  | .d y :: ws, ds, e, a, h => by
    rw [snap] at e
    cases q : snap S ws with
    | none => rw [q] at e; cases e
    | some es =>
      have h : a ∈ refsOf m ws := h
      exact refs_cell s q a h
  | .r n :: ws, ds, e, a, h => by
    rw [snap] at e
    cases c : S[n]? with
    | none => rw [c] at e; cases e
    | some cl =>
      rw [c] at e
      cases cl with
      | set _ => cases e
      | tab _ => cases e
      | dk _ => cases e
      | dn _ => cases e
      | obj _ _ => cases e
      | lst xs =>
        dsimp only at e
        cases q : snap S ws with
        | none => rw [q] at e; cases e
        | some es =>
          rw [refsOf] at h
          cases em : m[n]? with
          | none => rw [em] at h; exact refs_cell s q a h
          | some b =>
            rw [em] at h
            rcases List.mem_cons.mp h with rfl | h
            · obtain ⟨vs, h1, _⟩ := s.cell n a _ em c
              exact ⟨List.mem_of_getElem? em, vs, h1⟩
            · exact refs_cell s q a h
  | .l :: ws, ds, e, _, _ => by rw [snap] at e; cases e
theorem snap_rep {K : PySem.W.Frag} {x x' m : List Addr} {H : Hp} {S : Stor} (s : SRel K fa x m H S) : ∀ {vs : List V} {ws : List W} {ds : List D}, RepWs K fa (fz (m ++ x) H) m vs ws → snap S ws = some ds → Same (fz (m ++ x) H) (fz x' H) → (∀ a ∈ refsOf m ws, a ∉ x') → RepWs K fa (fz ([] ++ x') H) [] vs (ds.map W.d)
  | _, _, _, .nil, e, _, _ => by cases e; exact .nil
  | v :: vs, w :: ws, ds, .cons h r, e, sm, off => by
    cases w with
    | l => rw [snap] at e; cases e
    | d y =>
      rw [snap] at e
      cases q : snap S ws with
      | none => rw [q] at e; cases e
      | some es =>
        rw [q] at e
        cases e
        exact .cons (Rep.mono sm y v h) (snap_rep s r q sm off)
    | r n =>
      rw [snap] at e
      cases c : S[n]? with
      | none => rw [c] at e; cases e
      | some cl =>
        rw [c] at e
        cases cl with
        | set _ => cases e
        | tab _ => cases e
        | dk _ => cases e
        | dn _ => cases e
        | obj _ _ => cases e
        | lst xs =>
          dsimp only at e
          cases q : snap S ws with
          | none => rw [q] at e; cases e
          | some es =>
            rw [q] at e
            cases e
            obtain ⟨a, ha, rfl⟩ := h
            obtain ⟨us, h1, h2⟩ := s.cell n a _ ha c
            have e1 : refsOf m (.r n :: ws) = a :: refsOf m ws := by rw [refsOf, ha]
            refine .cons ?_ (snap_rep s r q sm fun b hb => off b (by rw [e1]; exact List.mem_cons_of_mem _ hb))
            exact Rep.lst (.inl (.inl (fz_of (off a (by rw [e1]; exact List.mem_cons_self)) h1))) (RepL.mono sm xs us h2)
/-- what the callee is asked -/
theorem pure_use {K : PySem.W.Frag} {x m : List Addr} {H : Hp} {S : Stor} {sg : L2.St} {Q : VK} {vs : List V} {ws : List W} {ds : List D} {r : Res W} (s : SRel K fa x m H S) (rw' : RepWs K fa (fz (m ++ x) H) m vs ws) (e : snap S ws = some ds)
    (h : After K fa x m H sg Wx (relW K fa) Q (endP (allD ws) S r)) : ∃ x', SRel K fa x' [] H [] ∧ RepWs K fa (fz ([] ++ x') H) [] vs (ds.map W.d) ∧ Same (fz (m ++ x) H) (fz ([] ++ x') H) ∧ FAfter K fa x' [] H Q (WE Wx sg) r := by
  have nd := s.nd
  rw [List.nodup_append] at nd
  have cellR := refs_cell s e
  have hsub : ∀ b, b ∈ m.filter (fun a => !(refsOf m ws).elem a) ++ x → b ∈ m ++ x := fun b hb => by
    rcases List.mem_append.mp hb with hb | hb
    · exact List.mem_append_left _ (List.mem_filter.mp hb).1
    · exact List.mem_append_right _ hb
  have hback : ∀ b, b ∈ m ++ x → b ∉ m.filter (fun a => !(refsOf m ws).elem a) ++ x → b ∈ refsOf m ws := fun b hb hn => by
    rcases List.mem_append.mp hb with hb | hb
    · by_cases q : (refsOf m ws).elem b = true
      · exact List.elem_iff.mp q
      · exact absurd (List.mem_append_left _ (List.mem_filter.mpr ⟨hb, by simpa using q⟩)) hn
    · exact absurd (List.mem_append_right _ hb) hn
  have off : ∀ a ∈ refsOf m ws, a ∉ m.filter (fun a => !(refsOf m ws).elem a) ++ x := fun a ha z => by
    rcases List.mem_append.mp z with z | z
    · have := (List.mem_filter.mp z).2
      rw [List.elem_iff.mpr ha] at this
      cases this
    · exact nd.2.2 a (cellR a ha).1 a z rfl
  have lax : allD ws = true → ∀ b, b ∈ m ++ x → b ∈ m.filter (fun a => !(refsOf m ws).elem a) ++ x := fun l b hb => by
    rw [refs_none m l]
    rcases List.mem_append.mp hb with hb | hb
    · exact List.mem_append_left _ (List.mem_filter.mpr ⟨hb, rfl⟩)
    · exact List.mem_append_right _ hb
  have ndx : (m.filter (fun a => !(refsOf m ws).elem a) ++ x).Nodup := List.Nodup.sublist ((List.filter_sublist (p := fun a => !(refsOf m ws).elem a) (l := m)).append (List.Sublist.refl x)) s.nd
  generalize m.filter (fun a => !(refsOf m ws).elem a) ++ x = x' at hsub hback off lax ndx
  have hx' : ∀ a ∈ x', H a ≠ none := fun a ha z => by
    rcases List.mem_append.mp (hsub a ha) with q | q
    · obtain ⟨o, e⟩ := s.at' q
      rw [z] at e
      cases e
    · exact s.there a q z
  have get : ∀ {l : List Addr} {G : Hp} {b : Addr} {o : HO}, fz l G b = some o → b ∉ l ∧ G b = some o := fun {l G b o} q => by
    unfold fz at q
    by_cases z : b ∈ l
    · rw [if_pos z] at q; cases q
    · rw [if_neg z] at q; exact ⟨z, q⟩
  have sm : Same (fz (m ++ x) H) (fz x' H) := fun b o q => fz_of (fun z => (get q).1 (hsub b z)) (get q).2
  refine ⟨x', ⟨ndx, rfl, fun i a c e1 => by simp at e1, hx'⟩, snap_rep s rw' e sm off, sm, ?_⟩
  -- behind the callee
  have keepAll : ∀ {m' : List Addr} {H' : Hp}, Step [] H m' H' → ∀ a o, H a = some o → H' a = some o := fun st a o q => st.keep a o q (by simp)
  have stm : ∀ {m' : List Addr} {H' : Hp}, Step [] H m' H' → Step m H m H' := fun st => ⟨⟨[], by simp⟩, fun a h1 h2 => absurd h1 h2, fun a o q _ => keepAll st a o q⟩
  have srm : ∀ {m' : List Addr} {H' : Hp}, Step [] H m' H' → SRel K fa x m H' S := fun st => ⟨s.nd, s.len, fun i a c e1 e2 => (s.cell i a c e1 e2).move (stm st).fz (by
      obtain ⟨o, q⟩ := s.at' (List.mem_of_getElem? e1)
      rw [q, keepAll st _ _ q]), fun a ha => by
    cases q : H a with
    | none => exact absurd q (s.there a ha)
    | some o => rw [keepAll st _ _ q]; simp⟩
  have backL : allD ws = true → ∀ {m' : List Addr} {H' : Hp}, Same (fz (m' ++ x') H') (fz (m ++ x) H') := fun l m' H' b o q => fz_of (fun z => (get q).1 (List.mem_append_right _ (lax l b z))) (get q).2
  have backT : ∀ {m' : List Addr} {H' : Hp}, Step [] H m' H' → ∀ b xs, (fz (m' ++ x') H' b = some (.tup xs) ∨ ∃ o, fz (m' ++ x') H' b = some (.frz o (.tup xs))) → fz (m ++ x) H' b = fz (m' ++ x') H' b := fun {m' H'} st b xs q => by
    have key : ∀ o, fz (m' ++ x') H' b = some o → (∀ vs, o ≠ .lst vs) → fz (m ++ x) H' b = fz (m' ++ x') H' b := fun o q n => by
      rw [q]
      refine fz_of (fun z => ?_) (get q).2
      obtain ⟨_, vs, hv⟩ := cellR b (hback b z fun z' => (get q).1 (List.mem_append_right _ z'))
      have := (get q).2
      rw [keepAll st _ _ hv] at this
      exact n vs (Option.some.inj this).symm
    rcases q with q | ⟨o, q⟩
    · exact key _ q fun vs z => by cases z
    · exact key _ q fun vs z => by cases z
  have rep1 : ∀ {m' : List Addr} {H' : Hp} {v : V} {y : D}, Step [] H m' H' → (allD ws || noLst y) = true → Rep K fa (fz (m' ++ x') H') v y → Rep K fa (fz (m ++ x) H') v y := fun st c rp => by
    rcases Bool.or_eq_true_iff.mp c with l | l
    · exact Rep.mono (backL l) _ _ rp
    · exact Rep.monoT (backT st) _ _ l rp
  have reps : ∀ {m' : List Addr} {H' : Hp} {vs : List V} {ys : List D}, Step [] H m' H' → (allD ws || noLsts ys) = true → RepL K fa (fz (m' ++ x') H') vs ys → RepL K fa (fz (m ++ x) H') vs ys := fun st c rp => by
    rcases Bool.or_eq_true_iff.mp c with l | l
    · exact RepL.mono (backL l) _ _ rp
    · exact RepL.monoT (backT st) _ _ l rp
  cases r with
  | bad => exact h
  | exc ex S' =>
    have h : After K fa x m H sg Wx (relW K fa) Q (if exOk (allD ws) ex = true then .exc ex S else .bad) := h
    split at h
    · rename_i c
      unfold exOk at c
      intro cl d m' H' st sr xr
      refine h cl d m H' (stm st) (srm st) ⟨xr.1, ?_⟩
      have x2 := xr.2
      cases ea : ex.arg with
      | none => rw [ea] at x2; exact x2
      | some p =>
        rw [ea] at x2 c
        obtain ⟨dx, v, k1, k2, k3⟩ := x2
        exact ⟨dx, v, k1, k2, rep1 st c k3⟩
    · exact h.elim
  | ok w S' =>
    cases w with
    | l => exact h.elim
    | d y =>
      have h : After K fa x m H sg Wx (relW K fa) Q (if (allD ws || noLst y) = true then .ok (.d y) S else .bad) := h
      split at h
      · rename_i c
        intro v m' H' st sr rp
        exact h v m H' (stm st) (srm st) (rep1 st c rp)
      · exact h.elim
    | r k =>
      have h : After K fa x m H sg Wx (relW K fa) Q (match S'[k]? with | some (.lst xs) => if (allD ws || noLsts xs) = true then .ok (.d (.lst xs)) S else .bad | _ => .bad) := h
      split at h
      · rename_i xs ek
        split at h
        · rename_i c
          intro v m' H' st sr rp
          obtain ⟨a, ha, rfl⟩ := rp
          obtain ⟨us, h1, h2⟩ := sr.cell k a _ ha ek
          have new : H a = none := st.new a (List.mem_of_getElem? ha) (by simp)
          have an : a ∉ m ++ x := fun z => by
            rcases List.mem_append.mp z with z | z
            · obtain ⟨o, q⟩ := s.at' z
              rw [new] at q
              cases q
            · exact s.there a z new
          exact h (.ref a) m H' (stm st) (srm st) (Rep.lst (.inl (.inl (fz_of an h1))) (reps st c h2))
        · exact h.elim
      · exact h.elim
theorem dfnP_use {n : Nat} {fs : Den (List W)} {F : Fn} {ta : TA} (hl : ∀ rho S ws S1, fs rho S = .ok ws S1 → ws.length = n) (ha : ∀ sg H Q, T X.K fa Wx (fun F m vs ws => RepWs X.K fa F m vs ws) fs sg H Q → ta sg H Q) {sg : L2.St} {H : Hp} {Q : VK} (h : T X.K fa Wx (relW X.K fa) (dFnP F fs) sg H Q) :
    ta sg H fun vs H1 => spD X.K fa n F vs H1 Q (WE Wx sg) := by
  obtain ⟨x, m, rho, S, at_, q⟩ := h
  refine ha sg H _ ⟨x, m, rho, S, at_, ?_⟩
  unfold dFnP at q
  revert q
  cases ef : fs rho S with
  | bad => exact fun z => z
  | exc e S1 => exact fun z => z
  | ok ws S1 =>
    intro q vs m1 H1 s1 t1 r1
    have q : After X.K fa x m H sg Wx (relW X.K fa) Q (match snap S1 ws with | some ds => endP (allD ws) S1 (F (ds.map W.d) []) | none => .bad) := q
    cases es : snap S1 ws with
    | none => rw [es] at q; exact q.elim
    | some ds =>
      rw [es] at q
      have q : After X.K fa x m H sg Wx (relW X.K fa) Q (endP (allD ws) S1 (F (ds.map W.d) [])) := q
      have q2 : After X.K fa x m1 H1 sg Wx (relW X.K fa) Q (endP (allD ws) S1 (F (ds.map W.d) [])) := by
        revert q
        cases endP (allD ws) S1 (F (ds.map W.d) []) with
        | bad => exact id
        | exc e S2 => exact fun h c d m' H' s2 r2 x2 => h c d m' H' (s1.trans s2) r2 x2
        | ok w2 S2 => exact fun h v2 m' H' s2 r2 rw2 => h v2 m' H' (s1.trans s2) r2 rw2
      obtain ⟨x', a1, a2, _, a3⟩ := pure_use t1 r1 es q2
      exact ⟨(RepWs.length r1).trans (hl rho S ws S1 ef), x', [], ds.map W.d, [], a1, a2, a3⟩
/-- f(e, ..): a def of the text, on a store of its own -/
theorem de_fnP {k n : Nat} {f : Addr} {fd : FuncData} {ps : List Str} {F : Fn} {y : Str} {p pos : Pos} {e : Expr} {es : List Expr} {fs : Den (List W)} (G : FnOk X.prog X.w X.K X.mg X.base (L2.CX X.prog X.w) k f fd ps (spD X.K fa n F)) (hr : Room k X.A) (hg : Gl X y) (hm : X.mg y = some (.ref f))
    (hk : PySem.W.keepIn X.K (.ref f) = true) (hb : Binds X.K fd ps []) (tk : Takes X Wx) (ha : DA X fa Wx (e :: es) fs) (hl : ∀ rho S ws S1, fs rho S = .ok ws S1 → ws.length = n) (hdb : (y == ("__debug__" : Str)) = false := by decide)
    (he : starEach (e :: es) X.env = (false, eval e X.env) :: starEach es X.env := by rfl) (hpl : (backTo pos (starEach es X.env)).any (·.1) = false := by rfl) : DE X fa Wx (.Call (.Name y p) (e :: es) [] pos) (dFnP F fs) := by
  refine PE.imp (pe_callS (E := WE Wx) G hr hg hm hk hb (fun sg => passAt tk sg) ha hdb he hpl) fun sg H Q h => ?_
  exact dfnP_use hl (fun _ _ _ q => q) h
end
end DL
namespace DL
open PySem PySem.Spec PyProof.Rows L2 StX
/-- the callee, with a lambda first, on a store of its own -/
def lamEnd (S1 : Stor) (ws : List W) (F : Fn) : Res W := match snap S1 ws with
  | some ds => endP (allD ws) S1 (F (.l :: ds.map W.d) [])
  | none => .bad
theorem FAfter.with {K : PySem.W.Frag} {fa : FA} {z : Option (Addr × Addr × Str × Hp)} {x m : List Addr} {H : Hp} {Q : VK} {E : XK} {r : Res W} (h : FAfter K fa x m H Q E r) (hn : ∀ S, r ≠ .ok .l S) : FAfter K (fa.with z) x m H Q E r := by
  cases r with
  | bad => exact h
  | exc e S' => exact fun c d m' H' st sr xr => h c d m' H' st sr.off' xr.off
  | ok w S' =>
    cases w with
    | d y => exact fun v m' H' st sr rw' => h v m' H' st sr.off' (Rep.off _ _ rw')
    | r n => exact fun v m' H' st sr rw' => h v m' H' st sr.off' rw'
    | l => exact absurd rfl (hn S')
/-! ### g(lambda ..: .., e, ..) -/
def dLamCallP (j : Nat) (q : Str) (FL : Option Fn → Fn) (Lf : Rho → Fn) (fs : Den (List W)) : Den W := fun rho S => match S[j]? with
  | some (.tab q') => if q' = q then (fs rho S).bind fun ws S1 => lamEnd S1 ws (FL (some (Lf rho))) else .bad
  | _ => .bad
section
variable {X : Cx} {fa : FA} {Wx : WX} {k kl nl n j : Nat} {x q : Str} {p pos lpos : Pos} {g c : Addr} {fd : FuncData} {ps : List Str} {es : List Expr} {fs : Den (List W)} {FL : Option Fn → Fn} {Lf : Rho → Fn} {params : Arguments} {body : Expr} {scope : Scope}
theorem de_lamCallP (hg : Gl X x) (hm : X.mg x = some (.ref g)) (hk : PySem.W.keepIn X.K (.ref g) = true) (hb : Binds X.K fd ps []) (hps : ps.length = n + 1) (G : ∀ z, GFn X.prog X.w X.K X.mg X.base (fa.with z) k kl nl (n + 1) g fd ps FL) (hr : Room k X.A) (hl0 : fa.lam = none)
    (TB : LamX.TabB X.base X.mg c fa.P) (hcode : X.env.code = .ref c) (hq : X.env.qual ++ "<lambda>" = q) (hdef : defaultsOf params X.env = ([], [])) (hfree : X.Ok → ∀ y ∈ scope.names, y.2 = .free → ∃ c, X.env.cells.lookup y.1 = some c)
    (hlam : ∀ (pins : List (Addr × Obj)) (sg : L2.St) (H : Hp) (s : Shared) (x m : List Addr) (rho : Rho) (S : Stor), Inv X pins sg H s → At X.K fa x m sg H rho S → ∀ (f c' : Addr) (pm ctv : Value), s.heap.get? f = some (PySem.W.kla_obj "<lambda>" q params body scope (cloFrom X.env.cells scope.names []) pm c' ctv) →
      H f = none → f ∉ frs X.stack → ∀ s1 H1 z, Un (frs X.stack) [] H H1 s.heap s1.heap → H1 c' = some (LamX.CodeO c' q) → HOk X.prog X.w H1 s1.heap → LamSt X.prog X.w X.K X.mg X.base (fa.with z) kl nl f (fz (m ++ x) H) (Lf rho) s1 H1)
    (ha : DA X fa Wx es fs) (hlen : ∀ rho S ws S1, fs rho S = .ok ws S1 → ws.length = n) (tk : Takes X Wx) (hdb : (x == ("__debug__" : Str)) = false := by decide)
    (he : starEach (.Lambda params body scope lpos :: es) X.env = (false, eval (.Lambda params body scope lpos) X.env) :: starEach es X.env := by rfl) (hpl : (backTo pos (starEach es X.env)).any (·.1) = false := by rfl) :
    DE X fa Wx (.Call (.Name x p) (.Lambda params body scope lpos :: es) [] pos) (dLamCallP j q FL Lf fs) := by
  refine ⟨fun pins s sg H Q I ⟨x0, m, rho, S, at_, h⟩ => ?_⟩
  unfold dLamCallP at h
  cases ej : S[j]? with
  | none => rw [ej] at h; exact h.elim
  | some cl =>
    rw [ej] at h
    cases cl with
    | lst _ => exact h.elim
    | set _ => exact h.elim
    | dk _ => exact h.elim
    | dn _ => exact h.elim
    | obj _ _ => exact h.elim
    | tab q' =>
      dsimp only at h
      by_cases e1 : q' = q
      · rw [if_pos e1] at h
        subst e1
        refine wpAny_Call_Name_kw (ld_glob I hg hm ?_ hdb)
        refine PySem.W.callWith_K (h₀ := X.base) I.ok.mod.kin hk ?_ he hpl
        rw [he]
        show wpAny _ _ (spliced ((false, eval (.Lambda params body scope lpos) X.env) :: backTo pos (starEach es X.env))) _ _ s
        refine Calls.spliced_cons (lam_make (j := j) I at_.s (by rw [hq]; exact ej) TB hcode hdef (hfree I.ok) fun f c' pm ctv H1 s1 I1 st1 sr1 hf hsz hn hco => ?_)
        rw [hq] at hf hco
        have hlt : X.env.locals < s.heap.objs.size := I.lt
        have offX : f ≠ X.env.locals ∧ f ∉ X.fs := ⟨fun e => Nat.lt_irrefl _ (Nat.lt_of_lt_of_le (e ▸ hlt) hsz), I.nofs hsz⟩
        have I1' : Inv X ((f, PySem.W.kla_obj "<lambda>" q' params body scope (cloFrom X.env.cells scope.names []) pm c' ctv) :: pins) sg H1 s1 := I1.pins_of fun r hr => by
          rcases List.mem_cons.mp hr with rfl | hr
          · exact ⟨hf, hn, offX.1, offX.2, fun v e => by cases e⟩
          · exact I1.pin r (List.mem_append_right _ hr)
        have at1 := at_.step st1 sr1
        -- the arguments
        have h1 : After X.K fa x0 m H1 sg Wx (relW X.K fa) Q ((fs rho S).bind fun ws S1 => lamEnd S1 ws (FL (some (Lf rho)))) := by
          revert h
          cases (fs rho S).bind fun ws S1 => lamEnd S1 ws (FL (some (Lf rho))) with
          | bad => exact id
          | exc e S2 => exact fun h c d m' H' s2 r2 x2 => h c d m' H' (st1.trans s2) r2 x2
          | ok w2 S2 => exact fun h v2 m' H' s2 r2 rw2 => h v2 m' H' (st1.trans s2) r2 rw2
        have args : T X.K fa Wx (fun F m vs ws => RepWs X.K fa F m vs ws) fs sg H1 fun vs H2 => ∃ m2 ws S2, Step m H1 m2 H2 ∧ SRel X.K fa x0 m2 H2 S2 ∧ RepWs X.K fa (fz (m2 ++ x0) H2) m2 vs ws ∧ ws.length = n ∧ After X.K fa x0 m2 H2 sg Wx (relW X.K fa) Q (lamEnd S2 ws (FL (some (Lf rho)))) := by
          refine ⟨x0, m, rho, S, at1, ?_⟩
          revert h1
          cases ef : fs rho S with
          | bad => exact fun z => z
          | exc e S1 => exact fun z => z
          | ok ws S1 =>
            intro h1 vs m2 H2 s2 t2 r2
            refine ⟨m2, ws, S1, s2, t2, r2, hlen rho S ws S1 ef, ?_⟩
            have h1 : After X.K fa x0 m H1 sg Wx (relW X.K fa) Q (lamEnd S1 ws (FL (some (Lf rho)))) := h1
            revert h1
            cases lamEnd S1 ws (FL (some (Lf rho))) with
            | bad => exact id
            | exc e S2 => exact fun h c d m' H' s3 r3 x3 => h c d m' H' (s2.trans s3) r3 x3
            | ok w2 S2 => exact fun h v2 m' H' s3 r3 rw3 => h v2 m' H' (s2.trans s3) r3 rw3
        refine thn (ha.run pos _ s1 sg H1 _ I1' args) fun us s2 ⟨vs, H2, I2, r, m2, ws, S2, st2, sr2, rw2, hwl, h2⟩ => ⟨I2.kIn, ?_⟩
        obtain ⟨pf, pn, pl, po, _⟩ := I2.pin (f, PySem.W.kla_obj "<lambda>" q' params body scope (cloFrom X.env.cells scope.names []) pm c' ctv) (List.mem_append_right _ List.mem_cons_self)
        have hst : f ∉ frs X.stack := fun z => (List.mem_cons.mp (I2.stkSub f z)).elim pl po
        have J : Inv X pins sg H2 s2 := I2.pins_of fun r hr => I2.pin r (List.mem_append_right _ (List.mem_cons_of_mem _ hr))
        have at2 := at1.step st2 sr2
        have hco2 : fz (m2 ++ x0) H2 c' = some (LamX.CodeO c' q') := st2.fz _ _ hco
        have LI : LamIn X.prog X.w X.K X.mg X.base (fa.with (some (f, c', q', fz (m2 ++ x0) H2))) kl nl s2 H2 (frs X.stack) [] (some (Lf rho)) := ⟨fun f2 c2 q2 F2 L2 e1 e2 => by
          cases e1
          cases e2
          exact ⟨_, _, _, _, pf, pn, hst, by simp, fun s3 H3 un hc3 ok3 => hlam _ sg H2 s2 x0 m2 rho S2 I2 at2 f c' pm ctv pf pn hst s3 H3 _ un hc3 ok3⟩⟩
        have hvl := RepWs.length rw2
        have bd := hb s2 (.ref f :: us) I2.kIn (by rw [List.append_nil, List.length_cons, hps, ← r.length, hvl, hwl])
        rw [List.append_nil] at bd
        cases es2 : snap S2 ws with
        | none =>
          unfold lamEnd at h2
          rw [es2] at h2
          exact h2.elim
        | some ds =>
        unfold lamEnd at h2
        rw [es2] at h2
        have h2 : After X.K fa x0 m2 H2 sg Wx (relW X.K fa) Q (endP (allD ws) S2 (FL (some (Lf rho)) (.l :: ds.map W.d) [])) := h2
        have hnl : ∀ S3, FL (some (Lf rho)) (.l :: ds.map W.d) [] ≠ .ok .l S3 := fun S3 e => by
          rw [e] at h2
          exact h2
        obtain ⟨x', u1, u2, u3, u4⟩ := pure_use sr2 rw2 es2 h2
        have run := G (some (f, c', q', fz (m2 ++ x0) H2)) (some (Lf rho)) X.A X.stack s2 H2 ⟨.ref f :: us, []⟩ (.ref f :: us) (.ref f :: vs) Q (WE Wx sg) hr I2.env0 bd (.cons rfl r) LI (by rw [List.length_cons, hvl, hwl, hps])
          ⟨by rw [List.length_cons, hvl, hwl], x', [], .l :: ds.map W.d, [], u1.with, .cons ⟨f, c', q', _, rfl, rfl, hco2, u3⟩ (u2.with hl0), u4.with hnl⟩
        refine wpAny_call (codeAny_mono run fun r s' hq => ?_)
        cases r with
        | error e => exact passAt tk sg pins H2 s2 e s' J hq
        | ok fl =>
          cases fl with
          | ret u => exact J.after hq
          | next => exact False.elim hq
          | brk => exact False.elim hq
          | cont => exact False.elim hq
      · rw [if_neg e1] at h
        exact h.elim
end
section
variable {X : Cx} {fa : FA} {Wx : WX} {k kl nl n j : Nat} {x q y : Str} {p pos lpos : Pos} {g c : Addr} {fd : FuncData} {ps : List Str} {es : List Expr} {fs : Den (List W)} {FL : Option Fn → Fn} {params : Arguments} {body : Expr} {scope : Scope}
/-- g(lambda a, ..: e, ..), the lambda capturing nothing -/
theorem de_lamPlainP {N ps' : List Str} {d : Den W} (hg : Gl X x) (hm : X.mg x = some (.ref g)) (hk : PySem.W.keepIn X.K (.ref g) = true) (hb : Binds X.K fd ps []) (hps : ps.length = n + 1) (G : ∀ z, GFn X.prog X.w X.K X.mg X.base (fa.with z) k (kl + 1) nl (n + 1) g fd ps FL)
    (hr : Room k X.A) (hl0 : fa.lam = none) (TB : LamX.TabB X.base X.mg c fa.P) (hcode : X.env.code = .ref c) (hq : X.env.qual ++ "<lambda>" = q) (hdef : defaultsOf params X.env = ([], [])) (Sc : FnScope N ps' scope) (hn : ps'.length = nl)
    (hbind : ∀ (cl : List (Str × Addr)) (pm c ctv : Value) (us : List Value), us.length = nl → bindArgs (PySem.W.kla_fn "<lambda>" q params body scope cl pm c ctv) ⟨us, []⟩ = pure (ps'.zip us))
    (hbody : ∀ (z : Option (Addr × Addr × Str × Hp)) (c f : Addr) (A : Around) (outer : List Env) (s : Shared) (H : Hp) (E : XK), Room kl (A.deeper (envOfC q scope s.heap.objs.size f (.ref c))) →
      DE (cxOf (L2.CX X.prog X.w) X.prog X.w X.K X.mg X.base N q scope f (.ref c) A outer s H E) (fa.with z) (wDef E) body d)
    (ha : DA X fa Wx es fs) (hlen : ∀ rho S ws S1, fs rho S = .ok ws S1 → ws.length = n) (tk : Takes X Wx) (hdb : (x == ("__debug__" : Str)) = false := by decide)
    (he : starEach (.Lambda params body scope lpos :: es) X.env = (false, eval (.Lambda params body scope lpos) X.env) :: starEach es X.env := by rfl) (hpl : (backTo pos (starEach es X.env)).any (·.1) = false := by rfl) :
    DE X fa Wx (.Call (.Name x p) (.Lambda params body scope lpos :: es) [] pos) (dLamCallP j q FL (fun _ => runExp N.length d) fs) :=
  de_lamCallP hg hm hk hb hps G hr hl0 TB hcode hq hdef (fun _ y hy e => absurd e (Sc.nofree y hy))
    (fun pins sg H s x m rho S I at_ f c' pm ctv hf hnf hst s1 H1 z un hc hok => lam_plain Sc hn hbind (hbody z) (un.keep f _ hf hnf hst (fun z => nomatch z)) hc hok) ha hlen tk hdb he hpl
end
end DL
namespace DL
open PySem PySem.Spec PyProof.Rows L2

/-! ### a comprehension that fills any kind of thing -/
section
variable {X : Cx}
abbrev Bdy := Addr → Env → (Shared → Prop) → (Value → Shared → Prop) → Shared → Prop
abbrev TB := Addr → L2.St → Hp → (Hp → Prop) → Prop
def tCm (wi : TI) (g : TG) (tt : TT) (tb : TB) (o0 : Addr → HO) (vs : List Nat) : TE := fun sg H Q => wi sg H fun J H1 => ∀ D, H1 D = none → ∃ W : Nat → Nat → Hp → Prop, (∃ m, W 0 m (upd H1 D (o0 D))) ∧ ∀ i m H, W i m H →
  (J.stop i H ∧ Q (.ref D) H) ∨ (J.go i H ∧ ∃ Nx : Hp → Prop, (∀ H', Nx H' → ∃ m', m' < m ∧ W (i + 1) m' H') ∧ ∀ x H', J.yld i H x H' → g x (wipe sg vs) H' fun sg2 H2 => wipe sg2 vs = wipe sg vs ∧ tt sg2 H2 fun b H3 =>
    if b = true then tb D sg2 H3 Nx else Nx H3)
/-- the loop of such a comprehension -/
def LoopRule (X : Cx) (ce tg : Expr) (ifs : List Expr) (bd : Bdy) : Prop := ∀ (R : Result → Shared → Prop) (it : Value) (D : Addr) (env : Env) (J : Nat → Shared → Prop),
  (∀ n s, J n s → wpAny (model X.prog X.w) X.A (pyNext it) (fun r s1 => match r with
    | none => R (.ok .next) s1
    | some v => wpAny (model X.prog X.w) X.A (letOwnedTupleGo tg it v) (fun _ s2 => wpAny (model X.prog X.w) X.A (assign tg env v) (fun _ s3 =>
        wpAny (model X.prog X.w) X.A (forIn ifs true fun c r => if r = true then do let ok ← isTrue c env (eval c env); pure (ForInStep.yield ok) else pure (ForInStep.yield r)) (fun ok s4 =>
          if ok = true then bd D env (fun s5 => ∃ m, m < n ∧ J m s5) (notedBy (model X.prog X.w) X.A env fun e s' => R (.error e) s') s4
          else ∃ m, m < n ∧ J m s4) (notedBy (model X.prog X.w) X.A env fun e s' => R (.error e) s') s3) (notedBy (model X.prog X.w) X.A env fun e s' => R (.error e) s') s2) (notedBy (model X.prog X.w) X.A env fun e s' => R (.error e) s') s1)
    (notedBy (model X.prog X.w) X.A env fun e s' => R (.error e) s') s) →
  ∀ n s, J n s → codeAny (model X.prog X.w) X.A (.compLoop ce 0 it (.ref D) env) R s
def StartRule (X : Cx) (ce : Expr) : Prop := ∀ (R : Result → Shared → Prop) (it : Value) (D : Addr) (env : Env) (s : Shared), codeAny (model X.prog X.w) X.A (.compLoop ce 0 it (.ref D) env) R s →
  wpAny (model X.prog X.w) X.A (pyIter it) (fun it' s' => codeAny (model X.prog X.w) X.A (.compLoop ce 0 it' (.ref D) env) R s') (notedBy (model X.prog X.w) X.A env fun x s' => R (.error x) s') s →
  codeAny (model X.prog X.w) X.A (.compStart ce 0 it (.ref D) env) R s
def MkRule (X : Cx) (mk : Sem Value) (ob : Obj) : Prop := ∀ (E : Value → Shared → Prop) (Q : Value → Shared → Prop) (s : Shared), Q (.ref s.heap.objs.size) { s with heap := s.heap.push ob } → wpAny (model X.prog X.w) X.A mk Q E s
theorem cm_core {pins : List (Addr × Obj)} {s : Shared} {sg : L2.St} {H : Hp} {Q : VK} {ce tg iter : Expr} {ifs : List Expr} {scope : Scope} {own : List (Str × Nat)} {pos' : Pos} {wi : TI} {g : TG} {tt : TT} {tb : TB} {use : Option (Value → Sem Unit)} {Qf : Value → Shared → Prop}
    {ob : Obj} {o0 : Addr → HO} {mk : Sem Value} {bd : Bdy} (hc : X.calm = true) (hN : X.N.Nodup) (iv : Inv X pins sg H s) (hi : PI X tg iter wi) (ok : BlkOk X.N X.env.scope scope own) (hcl : clausesOf ce = [⟨tg, iter, ifs, 0⟩])
    (hg : ∀ (s : Shared) (H : Hp) (C : Addr) (cl : List (Str × Addr)) (fp : List Addr), PG (X.blk s H scope (compEnvC scope cl C X.env) fp) tg g)
    (ht : ∀ (s : Shared) (H : Hp) (C : Addr) (cl : List (Str × Addr)) (fp : List Addr), PTs (X.blk s H scope (compEnvC scope cl C X.env) fp) ifs tt)
    (hb : ∀ (s : Shared) (H : Hp) (C : Addr) (cl : List (Str × Addr)) (fp : List Addr) (pins' : List (Addr × Obj)) (s' : Shared) (sg' : L2.St) (H' : Hp) (D : Addr) (Nx : Hp → Prop) (P : Shared → Prop) (E : Value → Shared → Prop),
      Inv (X.blk s H scope (compEnvC scope cl C X.env) fp) pins' sg' H' s' → tb D sg' H' Nx → (∀ s2 H2, Inv (X.blk s H scope (compEnvC scope cl C X.env) fp) pins' sg' H2 s2 → Nx H2 → P s2) → bd D (compEnvC scope cl C X.env) P E s')
    (hs : ∀ x, foldedSetIterable iter X.env x = pure x) (hloop : LoopRule X ce tg ifs bd) (hstart : StartRule X ce) (hmk : MkRule X mk ob)
    (hob : ∀ (H : Hp) (h : Heap), sysModules < h.objs.size → ObjOk X.prog X.w H (h.push ob) h.objs.size (o0 h.objs.size))
    (h : tCm wi g tt tb o0 (own.map (·.2)) sg H Q)
    (hRR : ∀ D C s' m H', Inv X pins sg H' s' → Q (.ref D) H' → s'.heap.Ns C m → FpOk X pins H' C → compPost (model X.prog X.w) X.A X.xe use Qf (.ref D) C (.ok .next) s') :
    wpAny (model X.prog X.w) X.A (comprehension ce scope X.env pos' mk false (eval iter X.env) use) Qf X.xe s := by
  have hfree : ∀ y ∈ scope.names, y.2 = .free → ∃ c, X.env.cells.lookup y.1 = some c := fun y hy e =>
    (ok.free y hy e).elim (fun k => iv.ok.has _ (.inl k)) (fun k => iv.ok.has _ (.inr k))
  have start := hi.run pins s sg H _ iv h
  refine wpAny_comprehension_free (use := use) hcl hs (closure_ok hfree) ok.kind (fun y hy e => by rw [ok.uniq y hy, e]) (thn start fun xv s1 hx => thn hx fun itv s2 h2 => ?_)
  obtain ⟨it, fp, tn, J, H2, rfl, I2, T, at0, off0, q⟩ := h2
  refine hmk _ _ _ (newEnv_comp ?_)
  generalize hD : s2.heap.objs.size = D
  have free2 : H2 D = none := I2.hok.fresh (Nat.le_of_eq hD)
  obtain ⟨W, ⟨m0, w0⟩, turn⟩ := q D free2
  generalize hs3 : ({ s2 with heap := s2.heap.push ob } : Shared) = s3
  have h3 : s3.heap = s2.heap.push ob := by rw [← hs3]
  have I3 : Inv X pins sg (upd H2 D (o0 D)) s3 := by
    rw [← hs3]
    refine I2.laid (t' := s2.toks) (fun b o e => Heap.get?_push_of_some _ e) (Nat.le_of_eq hD) ?_
    rw [← hD]
    exact hob _ s2.heap I2.big
  have small : ∀ b ∈ fp, b < s2.heap.objs.size := fun b hb => let ⟨o, e, _⟩ := T.obj _ _ at0 b hb; Heap.lt_size e
  have off3 : ∀ b ∈ fp, FpOk X pins (upd H2 D (o0 D)) b ∧ b < s3.heap.objs.size := fun b hb => by
    have lt := small b hb
    have z : upd H2 D (o0 D) b = none := by
      rw [upd_ne (by rw [← hD]; exact Nat.ne_of_lt lt)]
      exact (off0 b hb).1
    exact ⟨⟨z, (off0 b hb).2⟩, by rw [h3, Heap.size_push]; exact Nat.lt_succ_of_lt lt⟩
  have at3 : tn 0 s3.heap := T.keep _ _ _ at0 fun b _ o e => by rw [h3]; exact Heap.get?_push_of_some _ e
  have I4 := block_start I3 ok hN off3
  have pg := hg s3 (upd H2 D (o0 D)) s3.heap.objs.size (cellsFrom (s3.heap.objs.size + 1) scope.names (cloFrom X.env.cells scope.names [])) fp
  have pt := ht s3 (upd H2 D (o0 D)) s3.heap.objs.size (cellsFrom (s3.heap.objs.size + 1) scope.names (cloFrom X.env.cells scope.names [])) fp
  have pb := hb s3 (upd H2 D (o0 D)) s3.heap.objs.size (cellsFrom (s3.heap.objs.size + 1) scope.names (cloFrom X.env.cells scope.names [])) fp
  show codeAny _ _ (.compStart ce 0 (.ref it) (.ref D) (compEnvC scope (cellsFrom (s3.heap.objs.size + 1) scope.names (cloFrom X.env.cells scope.names [])) s3.heap.objs.size X.env)) (compPost (model X.prog X.w) X.A X.xe use Qf (.ref D) s3.heap.objs.size)
    { s3 with heap := pushCells (s3.heap.push { cls := .type "dict", data := .dict #[] }) scope.names }
  have nfp : ∀ b ∈ fp, (upd H2 D (o0 D)) b = none := fun b hb => (off3 b hb).1.1
  generalize hce : compEnvC scope (cellsFrom (s3.heap.objs.size + 1) scope.names (cloFrom X.env.cells scope.names [])) s3.heap.objs.size X.env = cv at I4 pg pt pb ⊢
  have cL : cv.locals = s3.heap.objs.size := by subst hce; rfl
  generalize hH3 : upd H2 D (o0 D) = H3 at I3 I4 pg pt pb w0 nfp off3
  generalize hs4 : ({ s3 with heap := pushCells (s3.heap.push { cls := .type "dict", data := .dict #[] }) scope.names } : Shared) = s4 at I4 ⊢
  have at4 : tn 0 s4.heap := T.keep _ _ _ at3 fun b _ o e => by rw [← hs4]; exact pushCells_keeps _ _ _ _ (Heap.get?_push_of_some _ e)
  have still : ∀ {sg' : L2.St} {H' : Hp} {s' : Shared}, Inv (X.blk s3 H3 scope cv fp) [] sg' H' s' → (∀ b ∈ fp, H' b = none) → ∀ b ∈ fp, FpOk (X.blk s3 H3 scope cv fp) [] H' b := fun {sg' H' s'} i' hn b hb =>
    ⟨hn b hb, (i'.ok.exf b hb).1, i'.ok.exfs b hb, .inl hb, fun x c e => (i'.ok.exf b hb).2 x c e, fun p hp => by simp [Cx.blk] at hp⟩
  have loop : codeAny (model X.prog X.w) X.A (.compLoop ce 0 (.ref it) (.ref D) cv) (compPost (model X.prog X.w) X.A X.xe use Qf (.ref D) s3.heap.objs.size) s4 := by
    refine hloop _ _ D cv (fun n s' => ∃ i H', Inv (X.blk s3 H3 scope cv fp) [] (wipe sg (own.map (·.2))) H' s' ∧ tn i s'.heap ∧ (∀ b ∈ fp, H' b = none) ∧ W i n H') (fun n s5 => ?_) m0 s4 ⟨0, H3, I4, at4, nfp, w0⟩
    rintro ⟨i, H5, I5, at5, n5, w5⟩
    rcases turn i n H5 w5 with ⟨stop, qq⟩ | ⟨go, Nx, hNx, step⟩
    · have td := T.done (X.blk s3 H3 scope cv fp) rfl rfl rfl hc i [] s5 _ H5 (fun _ _ => False) I5 (still I5 n5) at5 stop
      refine thnF td fun r s6 ⟨hr, I6⟩ => ?_
      subst hr
      have I7 : Inv X pins sg H5 s6 := I3.call' (ch := fp) I6.os I6.base I6.hok I6.bare fun b hb => let z := (off3 b hb).1; ⟨z.2.2.2.1, z.2.1, z.2.2.2.2.1, z.2.2.2.2.2⟩
      have nC : H5 s3.heap.objs.size = none := by
        have z : H5 cv.locals = none := I6.free
        rwa [cL] at z
      obtain ⟨m, hn, _⟩ := I6.loc
      have hn : s6.heap.Ns cv.locals m := hn
      rw [cL] at hn
      exact hRR D s3.heap.objs.size s6 m H5 I7 qq hn (I3.fpOk (Nat.le_refl _) nC)
    · have ti := T.item (X.blk s3 H3 scope cv fp) rfl rfl rfl hc i [] s5 _ H5 (fun _ _ => False) I5 (still I5 n5) at5 go
      refine thnF ti fun r s6 ⟨u, hr, h6⟩ => ?_
      subst hr
      refine thnF h6 fun _ s7 ⟨x, H7, I7, r7, y7, at7, n7⟩ => ?_
      have pinned := I7.pinned (still I7 n7) (T.obj _ _ at7)
      refine thnF (pg.run _ s7 _ H7 x u _ pinned r7 (step x H7 y7)) fun _ s8 ⟨sg8, H8, I8, hw8, q8⟩ => ?_
      refine thnF (pt.run _ s8 sg8 H8 _ I8 q8) fun b s9 ⟨H9, I9, q9⟩ => ?_
      have fin : ∀ (s' : Shared) (H' : Hp), Inv (X.blk s3 H3 scope cv fp) ([] ++ pinsAt fp s7.heap) sg8 H' s' → Nx H' → ∃ m, m < n ∧ ∃ i H', Inv (X.blk s3 H3 scope cv fp) [] (wipe sg (own.map (·.2))) H' s' ∧ tn i s'.heap ∧ (∀ b ∈ fp, H' b = none) ∧ W i m H' := fun s' H' i' nx => by
        obtain ⟨m', hm, w'⟩ := hNx H' nx
        have pin' : ∀ b ∈ fp, ∀ o, s7.heap.get? b = some o → s'.heap.get? b = some o ∧ H' b = none := fun b hb o e => by
          have z := i'.pin (b, o) (List.mem_append_right _ (List.mem_append_right _ (mem_pinsAt hb e)))
          exact ⟨z.1, z.2.1⟩
        have hl : (wipe sg (own.map (·.2))).length = sg8.length := by rw [← hw8, wipe_length]
        refine ⟨m', hm, i + 1, H', (i'.unpinned (pins := [])).weak hl (fun j v e => (wipe_some (by rw [hw8]; exact e)).1), T.keep _ _ _ at7 fun b hb o e => (pin' b hb o e).1, fun b hb => ?_, w'⟩
        obtain ⟨o, e, _⟩ := T.obj _ _ at7 b hb
        exact (pin' b hb o e).2
      cases b with
      | false =>
        rw [if_neg Bool.false_ne_true] at q9
        rw [if_neg Bool.false_ne_true]
        exact fin s9 H9 I9 q9
      | true =>
        rw [if_pos rfl] at q9
        rw [if_pos rfl]
        exact pb _ s9 sg8 H9 D Nx _ _ I9 q9 fin
  exact hstart _ _ D cv s4 loop (T.self X.A 0 _ _ _ at4 loop)
end
end DL
namespace DL
open PySem PySem.Spec PyProof.Rows L2

/-! ### set comprehensions -/
section
variable {K : PySem.W.Frag} {fa : FA}
theorem SRel.hideO {x m : List Addr} {H : Hp} {S : Stor} (s : SRel K fa x m H S) {p : Addr} {o : HO} (h : H p = none) : SRel K fa (p :: x) m (upd H p o) S := by
  obtain ⟨o1, o2⟩ := s.off h
  refine ⟨?_, s.len, fun i a c e1 e2 => ?_, fun a ha => ?_⟩
  · have nd := s.nd
    rw [List.nodup_append] at nd ⊢
    refine ⟨nd.1, List.nodup_cons.mpr ⟨o2, nd.2.1⟩, fun a ha b hb => ?_⟩
    rcases List.mem_cons.mp hb with rfl | hb
    · exact fun z => o1 (z ▸ ha)
    · exact nd.2.2 a ha b hb
  · have hm : a ∈ m := List.mem_of_getElem? e1
    have hne : a ≠ p := fun z => o1 (z ▸ hm)
    exact (s.cell i a c e1 e2).move (fz_hide s h) (upd_ne hne)
  · rcases List.mem_cons.mp ha with rfl | ha
    · rw [upd_same]; simp
    · rw [upd_ne (fun (z : a = p) => o2 (z ▸ ha))]
      exact s.there a ha
/-- what was private becomes a cell of the store -/
theorem SRel.giveC {x m : List Addr} {H : Hp} {S : Stor} {p : Addr} {c : C} (s : SRel K fa (p :: x) m H S) (h : Cell K fa (fz (m ++ p :: x) H) (m ++ [p]) H p c) : SRel K fa x (m ++ [p]) H (S ++ [c]) := by
  have e : m ++ [p] ++ x = m ++ p :: x := by simp
  refine ⟨by rw [e]; exact s.nd, by simp [s.len], fun i a c' e1 e2 => ?_, fun a ha => s.there a (List.mem_cons_of_mem _ ha)⟩
  rw [e]
  by_cases hi : i < m.length
  · rw [List.getElem?_append_left hi] at e1
    rw [List.getElem?_append_left (by rw [← s.len]; exact hi)] at e2
    exact (s.cell i a c' e1 e2).moveX (fun _ _ z => z) rfl ⟨[p], rfl⟩
  · rw [List.getElem?_append_right (by omega)] at e1
    rw [List.getElem?_append_right (by rw [← s.len]; omega), ← s.len] at e2
    have h0 : i - m.length = 0 := by
      have := (List.getElem?_eq_some_iff.mp e1).1
      simp at this
      omega
    rw [h0] at e1 e2
    simp at e1 e2
    subst e1 e2
    exact h
theorem putD_le (xs : List D) (d : D) : xs.length ≤ (putD xs d).length := by
  unfold putD
  split
  · exact Nat.le_refl _
  · rw [List.length_append]; omega
theorem putDs_le : ∀ (ys xs : List D), xs.length ≤ (ys.foldl putD xs).length
  | [], _ => Nat.le_refl _
  | y :: ys, xs => Nat.le_trans (putD_le xs y) (putDs_le ys _)
def scEnd (acc : List D) (r : Res (List D)) : Res W := r.calm.bind fun ys S2 => if ((acc ++ ys).all memOk && decide (((acc ++ ys).foldl putD []).length + 1 < 64)) = true then .ok (.r S2.length) (S2 ++ [.set ((acc ++ ys).foldl putD [])]) else .bad
def dSc (fi : Den Wlk) (tg : Tgt) (ft : Den Bool) (fe : Den W) (own : List Nat) : Den W := fun rho S => (fi rho S).bind fun it S1 => scEnd [] (lcGo it tg ft fe (wipeR rho own) it.items S1)
theorem scEnd_cons (acc : List D) (y : D) (r : Res (List D)) : scEnd acc (r.bind fun ys S3 => .ok (y :: ys) S3) = scEnd (acc ++ [y]) r := by
  cases r with
  | ok ys S =>
    unfold scEnd Res.bind Res.calm
    dsimp only
    rw [List.append_assoc]
    rfl
  | exc e S => rfl
  | bad => rfl
structure ScAt (K : PySem.W.Frag) (fa : FA) (x m0 : List Addr) (H0 : Hp) (p : Addr) (J : It) (it : Wlk) (tg : Tgt) (ft : Den Bool) (fe : Den W) (sg0 : L2.St) (rho0 : Rho) (sg : L2.St) (Wx : WX) (Q : VK) (i mm : Nat) (H : Hp) : Prop where
  ex : ∃ (m : List Addr) (S : Stor) (ps : List (Addr × D)) (L : List Mb) (acc : List D), Step m0 H0 m H ∧ SRel K fa (p :: x) m H S ∧ H p = some (KSet fa.w p L) ∧ Mems K fa (fz (m ++ p :: x) H) ps L ∧ ps.map Prod.snd = acc.foldl putD [] ∧ mm = it.items.length - i ∧ i ≤ it.items.length ∧
    ERel K fa (fz (m ++ p :: x) H) m sg0 rho0 ∧ RelI K fa (fz (m ++ p :: x) H) m J it ∧ After K fa x m0 H0 sg Wx (relW K fa) Q (scEnd acc (lcGo it tg ft fe rho0 (it.items.drop i) S))
theorem Mems.same {F F' : Hp} {ps : List (Addr × D)} {L : List Mb} (h : Mems K fa F ps L) (e : Same F F') : Mems K fa F' ps L := ⟨fun p hp => ⟨Rep.mono e _ _ (h.rep p hp).1, (h.rep p hp).2⟩, h.perm⟩
end
section
variable {X : Cx} {fa : FA} {Wx : WX}
/-- an item goes into the set at D -/
def tbS (K : PySem.W.Frag) (fa : FA) (fe : Den W) : TB := fun D sg H Nx => T K fa W0 (relW K fa) fe sg H fun y H4 => rSAddA K fa (.ref D) [y] H4 fun _ H5 => Nx H5
theorem sc_room {acc : List D} {y : D} {r : Res (List D)} {x m : List Addr} {H : Hp} {sg : L2.St} {Q : VK} (h : After X.K fa x m H sg Wx (relW X.K fa) Q (scEnd (acc ++ [y]) r)) : memOk y = true ∧ ((acc ++ [y]).foldl putD []).length + 1 < 64 := by
  cases r with
  | bad => exact (show False from h).elim
  | exc e S3 => exact (show False from h).elim
  | ok ys S3 =>
    have z : After X.K fa x m H sg Wx (relW X.K fa) Q (if ((acc ++ [y] ++ ys).all memOk && decide (((acc ++ [y] ++ ys).foldl putD []).length + 1 < 64)) = true then Res.ok (W.r S3.length) (S3 ++ [.set ((acc ++ [y] ++ ys).foldl putD [])]) else .bad) := h
    by_cases hz : ((acc ++ [y] ++ ys).all memOk && decide (((acc ++ [y] ++ ys).foldl putD []).length + 1 < 64)) = true
    · rw [Bool.and_eq_true] at hz
      have h1 := hz.1
      have h2 := of_decide_eq_true hz.2
      rw [List.foldl_append] at h2
      have h3 := putDs_le ys ((acc ++ [y]).foldl putD [])
      refine ⟨?_, by omega⟩
      rw [List.all_append, List.all_append, Bool.and_eq_true, Bool.and_eq_true] at h1
      simpa using h1.1.2
    · rw [if_neg hz] at z
      exact (show False from z).elim
theorem T.sc {fi : Den Wlk} {tg : Tgt} {ft : Den Bool} {fe : Den W} {own ns : List Nat} (hns : ∀ n ∈ ns, n ∈ own) {sg : L2.St} {H : Hp} {Q : VK} (h : T X.K fa Wx (relW X.K fa) (dSc fi tg ft fe own) sg H Q) :
    tCm (TIt X.K fa Wx fi) (TGd X.K fa ns tg) (T X.K fa W0 relB ft) (tbS X.K fa fe) (fun D => KSet fa.w D []) own sg H Q := by
  show T X.K fa Wx (fun F m J it => RelI X.K fa F m J it) fi sg H _
  refine T.one (r3 := relW X.K fa) (g := fun rho it S1 => scEnd [] (lcGo it tg ft fe (wipeR rho own) it.items S1)) (fun _ _ _ q => q) (fun x m0 H0 S J it rho at_ ri q p hp => ?_) h
  refine ⟨fun i mm Hc => ScAt X.K fa x m0 H0 p J it tg ft fe (wipe sg own) (wipeR rho own) sg Wx Q i mm Hc,
    ⟨it.items.length, ⟨m0, S, [], [], [], Step.laid hp, at_.s.hideO hp, upd_same, ⟨(fun _ z => nomatch z), .refl _⟩, rfl, by simp, Nat.zero_le _, (at_.e.wipe own).same (fz_hide at_.s hp), ri.same (fz_hide at_.s hp), q⟩⟩, ?_⟩
  rintro i mm Hc ⟨m, S', ps, L, acc, st, sr, hv, me, ea, rfl, hi, er, ri', q'⟩
  by_cases hlt : i < it.items.length
  · right
    have hd : it.items.drop i = it.items[i] :: it.items.drop (i + 1) := (List.drop_eq_getElem_cons hlt)
    rw [hd] at q'
    unfold lcGo at q'
    by_cases hc : cellOk it S' = true
    · rw [if_pos hc] at q'
      obtain ⟨w1, _, w3⟩ := ri'.walk sr hc i
      refine ⟨w1 hlt, fun H' => ∃ m', m' < it.items.length - i ∧ ScAt X.K fa x m0 H0 p J it tg ft fe (wipe sg own) (wipeR rho own) sg Wx Q (i + 1) m' H', fun H' z => z, fun v H' hy => ?_⟩
      obtain ⟨d, ed, sy, ry, rd⟩ := w3 v H' hlt hy
      have ed' : it.items[i] = d := by
        rw [List.getElem?_eq_getElem hlt] at ed
        exact Option.some.inj ed
      rw [ed'] at q'
      cases et : tg (.d d) (wipeR rho own) S' with
      | none => rw [et] at q'; exact (show False from q').elim
      | some rho1 =>
        rw [et] at q'
        dsimp only at q'
        have erH := er.step sy
        refine ⟨p :: x, m, wipeR rho own, S', .d d, rho1, ⟨ry, erH⟩, rd, et, fun sg1 o1 e1 => ?_⟩
        refine ⟨by rw [wipe_only o1 hns, wipe_wipe], p :: x, m, rho1, S', ⟨ry, e1⟩, ?_⟩
        cases ef : ft rho1 S' with
        | bad => rw [ef] at q'; exact (show False from q').elim
        | exc e S1 => rw [ef] at q'; exact (show False from q').elim
        | ok b S1 =>
          rw [ef] at q'
          have q1 : After X.K fa x m0 H0 sg Wx (relW X.K fa) Q (scEnd acc (if b = true then (fe rho1 S1).calm.bind fun w S2 => match w with
            | .d y => (lcGo it tg ft fe (wipeR rho own) (it.items.drop (i + 1)) S2).bind fun ys S3 => .ok (y :: ys) S3
            | .r _ => .bad
            | .l => .bad
            else lcGo it tg ft fe (wipeR rho own) (it.items.drop (i + 1)) S1)) := q'
          intro b' m2 H2 s2 r2 eb
          have eb' : b' = b := eb
          subst eb'
          have np : p ∉ m := sr.show'.2.1
          have keepP : ∀ {ma mb : List Addr} {Ha Hb : Hp} {u : HO}, Step ma Ha mb Hb → p ∉ ma → Ha p = some u → Hb p = some u := fun st hn e => st.keep p _ e hn
          have hp1 := keepP sy np hv
          have hp2 := keepP s2 np hp1
          have np2 : p ∉ m2 := r2.show'.2.1
          have st2 : Step m0 H0 m2 H2 := (st.trans sy).trans s2
          have me2 : Mems X.K fa (fz (m2 ++ p :: x) H2) ps L := me.same (sy.trans s2).fz
          have er2 := erH.step s2
          have ri2 : RelI X.K fa (fz (m2 ++ p :: x) H2) m2 J it := RelI.step (sy.trans s2) ri'
          cases b' with
          | false =>
            rw [if_neg Bool.false_ne_true] at q1 ⊢
            exact ⟨it.items.length - (i + 1), by omega, ⟨m2, S1, ps, L, acc, st2, r2, hp2, me2, ea, rfl, hlt, er2, ri2, q1⟩⟩
          | true =>
            rw [if_pos rfl] at q1 ⊢
            refine ⟨p :: x, m2, rho1, S1, ⟨r2, e1.step s2⟩, ?_⟩
            cases eg : fe rho1 S1 with
            | bad => rw [eg] at q1; exact (show False from q1).elim
            | exc e S2 => rw [eg] at q1; exact (show False from q1).elim
            | ok w S2 =>
              rw [eg] at q1
              intro u m3 H3 s3 r3 ru
              cases w with
              | r n => exact (show False from q1).elim
              | l => exact (show False from q1).elim
              | d y =>
                have q2 : After X.K fa x m0 H0 sg Wx (relW X.K fa) Q (scEnd acc ((lcGo it tg ft fe (wipeR rho own) (it.items.drop (i + 1)) S2).bind fun ys S3 => .ok (y :: ys) S3)) := q1
                rw [scEnd_cons] at q2
                obtain ⟨my, few⟩ := sc_room q2
                have hp3 := keepP s3 np2 hp2
                have me3 : Mems X.K fa (fz (m3 ++ p :: x) H3) ps L := me2.same s3.fz
                have kt := my
                unfold memOk at kt
                rw [Bool.and_eq_true] at kt
                have ru : Rep X.K fa (fz (m3 ++ p :: x) H3) u y := ru
                have few' : ps.length + 1 < 64 := by
                  have z := putD_le (acc.foldl putD []) y
                  rw [List.foldl_append] at few
                  have few : (putD (acc.foldl putD []) y).length + 1 < 64 := few
                  have e := congrArg List.length ea
                  rw [List.length_map] at e
                  omega
                cases y with
                | tup ys =>
                  cases ru with
                  | @tup b us _ g1 g2 =>
                    refine ⟨p, ps, L, (b, .tup ys), rfl, rfl, hp3, me3.same fz_sub, Rep.mono fz_sub _ _ (.tup g1 g2), my, few', fun L' pm => ?_⟩
                    obtain ⟨so, sm⟩ := r3.own (o := KSet fa.w p L')
                    refine ⟨it.items.length - (i + 1), by omega, ⟨m3, S2, addP ps (b, .tup ys), L', acc ++ [.tup ys], ?_, so, upd_same, ⟨fun z hz => ?_, pm⟩, ?_, rfl, hlt, (er2.step s3).same sm, (RelI.step s3 ri2).same sm, q2⟩⟩
                    · have st3 := st2.trans s3
                      refine ⟨st3.pre, st3.new, fun a o e hn => ?_⟩
                      by_cases hap : a = p
                      · subst hap
                        rw [hp] at e
                        cases e
                      · rw [upd_ne hap]
                        exact st3.keep a o e hn
                    · rcases addP_sub hz with hz | hz
                      · exact ⟨Rep.mono sm _ _ (me3.rep z hz).1, (me3.rep z hz).2⟩
                      · rw [hz]; exact ⟨Rep.mono sm _ _ (.tup g1 g2), my⟩
                    · rw [addP_snd, ea, List.foldl_append] <;> rfl
                | _ => exact absurd kt.1 (by simp [isTup])
    · rw [if_neg hc] at q'
      exact (show False from q').elim
  · left
    have hi' : i = it.items.length := by omega
    rw [hi', List.drop_length] at q'
    unfold lcGo at q'
    by_cases hc : cellOk it S' = true
    · rw [if_pos hc] at q'
      obtain ⟨_, w2, _⟩ := ri'.walk sr hc i
      refine ⟨w2 (by omega), ?_⟩
      have q1 : After X.K fa x m0 H0 sg Wx (relW X.K fa) Q (if ((acc ++ []).all memOk && decide (((acc ++ []).foldl putD []).length + 1 < 64)) = true then Res.ok (W.r S'.length) (S' ++ [.set ((acc ++ []).foldl putD [])]) else .bad) := q'
      rw [List.append_nil] at q1
      by_cases hz : (acc.all memOk && decide ((acc.foldl putD []).length + 1 < 64)) = true
      · rw [if_pos hz] at q1
        refine q1 (.ref p) (m ++ [p]) Hc ⟨?_, fun a ha hn => ?_, st.keep⟩ (sr.giveC ⟨ps, L, ea, me, hv⟩) ⟨p, by rw [← sr.len]; simp, rfl⟩
        · obtain ⟨t, e⟩ := st.pre
          exact ⟨t ++ [p], by rw [e, List.append_assoc]⟩
        · rcases List.mem_append.mp ha with ha | ha
          · exact st.new a ha hn
          · rw [List.mem_singleton.mp ha]; exact hp
      · rw [if_neg hz] at q1
        exact (show False from q1).elim
    · rw [if_neg hc] at q'
      exact (show False from q').elim

variable {elt tg iter : Expr} {ifs : List Expr} {scope : Scope} {own : List (Str × Nat)} {pos : Pos} {fi : Den Wlk} {gt : Tgt} {ft : Den Bool} {fe : Den W} {ns : List Nat}
def bdS (P : Program) (w : World) (A : Around) (elt : Expr) : Bdy := fun D env P1 E s => wpAny (model P w) A (eval elt env) (fun x s4 => wpAny (model P w) A (call (.builtin "set.add") [.ref D, x]) (fun _ s5 => P1 s5) E s4) E s
theorem de_sc (hw : fa.w = X.w) (hu : X.A.units + 66 < cLine) (hc : X.calm = true) (hN : X.N.Nodup) (hi : DI X fa Wx tg iter fi) (ok : BlkOk X.N X.env.scope scope own) (hns : ∀ n ∈ ns, n ∈ own.map (·.2))
    (hg : ∀ (s : Shared) (H : Hp) (C : Addr) (cl : List (Str × Addr)) (fp : List Addr), DG (X.blk s H scope (compEnvC scope cl C X.env) fp) fa tg ns gt) (ht : ∀ (s : Shared) (H : Hp) (C : Addr) (cl : List (Str × Addr)) (fp : List Addr), DTs (X.blk s H scope (compEnvC scope cl C X.env) fp) fa W0 ifs ft)
    (he : ∀ (s : Shared) (H : Hp) (C : Addr) (cl : List (Str × Addr)) (fp : List Addr), DE (X.blk s H scope (compEnvC scope cl C X.env) fp) fa W0 elt fe) (hs : ∀ x, foldedSetIterable iter X.env x = pure x := by intro _; rfl) :
    DE X fa Wx (.SetComp elt [⟨tg, iter, ifs, 0⟩] scope pos) (dSc fi gt ft fe (own.map (·.2))) := by
  refine ⟨fun pins s sg H Q I h => ?_⟩
  rw [PpSet.eval_SetComp]
  have h' := T.sc hns h
  refine cm_core (g := TGd X.K fa ns gt) (tt := T X.K fa W0 relB ft) (bd := bdS X.prog X.w X.A elt) (use := none) hc hN I hi ok rfl hg ht (fun s1 H1 C cl fp pins' s' sg' H' D Nx P E I1 hb hP => ?_) hs (fun R it D env J turn n s h => PpSet.compLoopS_any J turn n h) (fun R it D env s h0 h => PpSet.codeAny_compStart_set h0 h)
    (ob := freshSet X.w) (fun E Q s h => PpSet.newSet_ok h) (fun H h lt => ?_) h' (fun D C s' m H' I' q hn f => ⟨m, hn, fun h'' sb => ?_⟩)
  · refine thnF ((he s1 H1 C cl fp).run pins' s' sg' H' _ I1 hb) fun u s2 ⟨y, H2, I2, r2, q2⟩ => ?_
    refine wpAny_mono (call_sadd (X := X.blk s1 H1 scope (compEnvC scope cl C X.env) fp) (fa := fa) hw hu pins' s2 sg' H2 (.ref D) [y] (.ref D) [u] _ I2 rfl (.cons r2 .nil) q2) (fun v s3 ⟨_, H3, I3, _, q3⟩ => hP s3 H3 I3 q3) fun _ _ z => ?_
    exact (show False from z).elim
  · rw [hw]
    exact kset_new (kraw_new (Heap.get?_push_size _ rfl))
  · obtain ⟨f0, f1, f2, f3, f4, f5⟩ := f
    exact ⟨.ref D, H', I'.turned (t' := s'.toks) (fun b o hb e => (sb.2 b hb).trans e) f0 f1 f3 f4 f5, rfl, q⟩
end
end DL
namespace DL
open PySem PySem.Spec PyProof.Rows L2

/-! ### enumerate, zip over lists, tuples, texts -/
theorem enum_new1 {v : Value} {o : Obj} {G : Heap → Prop} (B : Begins v o G) :
    Meets (Builtin.«enumerate.__new__» ⟨[.type "enumerate", v], []⟩) (fun _ R s => G s.heap ∧ R (.ok (.ret (.ref (s.heap.push o).objs.size))) { s with heap := (s.heap.push o).push { cls := .type "enumerate", data := .fields #[.none, .bool false, .ref s.heap.objs.size, rawInt 0, .none, .none] } }) :=
  .of_wp fun prog w A R s h => by
    obtain ⟨hp, g, d, tk, os⟩ := s
    obtain ⟨h1, h⟩ := h
    have hsub := sub_enumerate
    have it1 : ∀ {A' : Around} {E : Value → Shared → Prop} {Q : Value → Shared → Prop}, Q (.ref hp.objs.size) ⟨hp.push o, g, d, tk, os⟩ → wpAny (model prog w) A' (pyIter v) Q E ⟨hp, g, d, tk, os⟩ := fun q => B.iter prog w _ _ ⟨hp, g, d, tk, os⟩ _ h1 q
    wp_walk using it1
    refine wpAny_stack_any fun st => wpAny_pure ?_
    split
    · rename_i c _ _ _ _ _
      cases (c == Value.type "enumerate")
      · wp_walk using it1
        exact ⟨_, rfl, h⟩
      · wp_walk using it1
        exact ⟨_, rfl, h⟩
    · wp_walk using it1
      exact ⟨_, rfl, h⟩
theorem enum_begins1 {prog : Program} {w : World} {A : Around} {E : Value → Shared → Prop} {s : Shared} {v : Value} {o : Obj} {G : Heap → Prop} {Q : Value → Shared → Prop} (B : Begins v o G) (h1 : G s.heap)
    (h : ∀ h', IsEnum h' (s.heap.objs.size + 1) s.heap.objs.size 0 .none → h'.get? s.heap.objs.size = some o → h'.objs.size = s.heap.objs.size + 2 → (∀ b u, s.heap.get? b = some u → h'.get? b = some u) → Q (.ref (s.heap.objs.size + 1)) { s with heap := h' }) :
    wpAny (model prog w) A (call (.type "enumerate") [v]) Q E s := by
  refine callType_new F.called_enumerate (by decide) (F.typeCall_enumerate_1 _) (F.newCall_enumerate_1 _) (fun obj => F.args_object_init_2 obj _) F.entry_enumerate_new (enum_new1 B) ⟨h1, ?_⟩
  have hz : (s.heap.push o).objs.size = s.heap.objs.size + 1 := Heap.size_push ..
  show (_ : Prop) ∧ _
  rw [hz]
  have he := Heap.get?_push_size (s.heap.push o) (o := { cls := .type "enumerate", data := .fields #[.none, .bool false, .ref s.heap.objs.size, rawInt 0, .none, .none] }) rfl
  rw [hz] at he
  exact ⟨⟨_, he, rfl⟩, h _ he (Heap.get?_push_of_some _ (Heap.get?_push_size _ B.free)) (by rw [Heap.size_push, hz]) fun b u z => Heap.get?_push_of_some _ (Heap.get?_push_of_some _ z)⟩

/-- what is gone through: a list, a tuple, a text -/
inductive Sr where
  | L (a : Addr) | T (a : Addr) | S (z : Str)
def txtV (z : Str) : List V := z.cps.toList.map fun c => V.str ⟨#[c]⟩
def Sr.has (K : PySem.W.Frag) (H : Hp) : Sr → List V → Prop
  | .L a, xs => SqL K H a xs
  | .T a, xs => SqT K H a xs
  | .S z, xs => xs = txtV z
/-- its iterator stands at the i-th -/
def Sr.iter (h : Heap) (it : Addr) (i : Nat) : Sr → Prop
  | .L a => h.IsListIter it a i
  | .T a => h.IsTupleIter it a i
  | .S z => ∃ t, h.IsStrIter it (strIterType z) z t i
def Sr.src : Sr → List Addr
  | .L a => [a]
  | .T a => [a]
  | .S _ => []
theorem Sr.iter_at {sr : Sr} {h h' : Heap} {it : Addr} {i : Nat} (x : sr.iter h it i) (k : ∀ o, h.get? it = some o → h'.get? it = some o) : sr.iter h' it i := by
  cases sr with
  | L a => exact Heap.IsListIter.at x k
  | T a => exact Heap.IsTupleIter.at x k
  | S z => obtain ⟨t, o, h1, h2, h3⟩ := x; exact ⟨t, o, k o h1, h2, h3⟩
theorem Sr.iter_obj {sr : Sr} {h : Heap} {it : Addr} {i : Nat} (x : sr.iter h it i) : ∃ o vs, h.get? it = some o ∧ o.data = .fields vs := by
  cases sr with
  | L a => obtain ⟨o, h1, h2, h3⟩ := x; exact ⟨o, _, h1, h3⟩
  | T a => obtain ⟨o, h1, h2, h3⟩ := x; exact ⟨o, _, h1, h3⟩
  | S z => obtain ⟨t, o, h1, h2, h3⟩ := x; exact ⟨o, _, h1, h3⟩
section
variable {X : Cx} {pins : List (Addr × Obj)} {sg : L2.St} {H : Hp} {s : Shared}
theorem Sr.one {sr : Sr} {xs ys : List V} (I : Inv X pins sg H s) (h1 : sr.has X.K H xs) (h2 : sr.has X.K H ys) : xs = ys := by
  cases sr with
  | L a => exact I.list_inj h1 h2
  | T a => exact I.tuple_inj h1 h2
  | S z => exact h1.trans h2.symm
/-- what its iterator gives -/
theorem Sr.draws {sr : Sr} {xs : List V} {it : Addr} {i : Nat} (I : Inv X pins sg H s) (hh : X.A.handled = none) (h : sr.has X.K H xs) (x : sr.iter s.heap it i) : ∃ (fp : List Addr) (Pv : Nat → Value → Prop) (St : Nat → Heap → Prop), Draws X.prog X.w X.A.in1 it fp xs.length Pv St ∧ St i s.heap ∧ it ∈ fp ∧
    (∀ j h', St j h' → sr.iter h' it j) ∧ (∀ b ∈ fp, b = it ∨ (b ∈ sr.src ∧ ∃ o vs n, s.heap.get? b = some o ∧ o.data = .seq vs n)) ∧ ∀ j u, Pv j u → ∃ v, xs[j]? = some v ∧ RelV v u := by
  have hh' : X.A.in1.handled = none := hh
  cases sr with
  | L a =>
    obtain ⟨its, rv, p, hz⟩ := I.list h
    obtain ⟨o, ho, hc, n, hd⟩ := p.isList
    obtain ⟨o2, ho2, hc2, hd2⟩ := id x
    have ne : a ≠ it := fun e => by
      subst e
      rw [ho] at ho2
      cases ho2
      rw [hd] at hd2
      cases hd2
    have hl := rv.length
    have e : its.toArray.size = xs.length := by rw [List.size_toArray]; exact hl.symm
    refine ⟨[it, a], _, _, e ▸ Draws.list hh' it a ne its.toArray, ⟨x, p.isList⟩, by simp, fun j h' z => z.1, fun b hb => ?_, fun j u hu => ?_⟩
    · have e' : b = it ∨ b = a := by simpa using hb
      exact e'.imp id fun e => ⟨by rw [e]; exact List.mem_cons_self, o, _, _, by rw [e]; exact ho, hd⟩
    · have hj : its[j]? = some u := by simpa using hu
      obtain ⟨h3, h4⟩ := List.getElem?_eq_some_iff.mp hj
      obtain ⟨u', h5, h6⟩ := rv.get (List.getElem?_eq_getElem (show j < xs.length by omega))
      rw [hj] at h5
      cases h5
      exact ⟨_, List.getElem?_eq_getElem (by omega), h6⟩
  | T a =>
    obtain ⟨its, rv, p, hz⟩ := I.tuple h
    have p' : s.heap.IsTuple a its.toArray := p
    obtain ⟨o, ho, hc, n, hd⟩ := id p'
    obtain ⟨o2, ho2, hc2, hd2⟩ := id x
    have ne : a ≠ it := fun e => by
      subst e
      rw [ho] at ho2
      cases ho2
      rw [hd] at hd2
      cases hd2
    have hl := rv.length
    have e : its.toArray.size = xs.length := by rw [List.size_toArray]; exact hl.symm
    refine ⟨[it, a], _, _, e ▸ Draws.tuple hh' it a ne its.toArray, ⟨x, p'⟩, by simp, fun j h' z => z.1, fun b hb => ?_, fun j u hu => ?_⟩
    · have e' : b = it ∨ b = a := by simpa using hb
      exact e'.imp id fun e => ⟨by rw [e]; exact List.mem_cons_self, o, _, _, by rw [e]; exact ho, hd⟩
    · have hj : its[j]? = some u := by simpa using hu
      obtain ⟨h3, h4⟩ := List.getElem?_eq_some_iff.mp hj
      obtain ⟨u', h5, h6⟩ := rv.get (List.getElem?_eq_getElem (show j < xs.length by omega))
      rw [hj] at h5
      cases h5
      exact ⟨_, List.getElem?_eq_getElem (by omega), h6⟩
  | S z =>
    obtain ⟨t, x⟩ := x
    cases (show xs = txtV z from h)
    have e : z.cps.size = (txtV z).length := by simp [txtV]
    refine ⟨[it], _, _, e ▸ Draws.text hh' it z t, x, by simp, fun j h' q => ⟨t, q⟩, fun b hb => .inl (List.mem_singleton.mp hb), fun j u hu => ?_⟩
    obtain ⟨c, t', h1, h2⟩ := hu
    subst h2
    refine ⟨.str ⟨#[c]⟩, ?_, _, rfl⟩
    unfold txtV
    rw [List.getElem?_map, Array.getElem?_toList, h1] <;> rfl
end
/-- enumerate(it) -/
def ItE (K : PySem.W.Frag) (sr : Sr) : It :=
  ⟨fun i H => ∃ xs, sr.has K H xs ∧ i < xs.length, fun i H v H' => ∃ T x, v = .ref T ∧ H T = none ∧ H' = upd H T (.tup [.int (i : Nat), x]) ∧ ∀ xs, sr.has K H xs → xs[i]? = some x, fun i H => ∃ xs, sr.has K H xs ∧ xs.length = i⟩
/-- zip of two -/
def ItZ (K : PySem.W.Frag) (s1 s2 : Sr) : It :=
  ⟨fun i H => ∃ xs ys, s1.has K H xs ∧ s2.has K H ys ∧ i < xs.length ∧ i < ys.length,
    fun i H v H' => ∃ T x y, v = .ref T ∧ H T = none ∧ H' = upd H T (.tup [x, y]) ∧ (∀ xs, s1.has K H xs → xs[i]? = some x) ∧ ∀ ys, s2.has K H ys → ys[i]? = some y,
    fun i H => ∃ xs ys, s1.has K H xs ∧ s2.has K H ys ∧ min xs.length ys.length = i⟩
/-- new pairs out of an iterator: from what goes -/
theorem turn_pairs {P : Program} {w : World} {K : PySem.W.Frag} {elts : List Expr} {kk : Nat} {tpos : Pos} {J : It} {ch : List Addr} {e : Addr} {tn : Nat → Heap → Prop} (hm : e ∈ ch)
    (ho : ∀ i h, tn i h → ∀ b ∈ ch, ∃ o, h.get? b = some o ∧ ∀ v, o.data ≠ .cell v) (hk : ∀ i h h', tn i h → (∀ b ∈ ch, ∀ o, h.get? b = some o → h'.get? b = some o) → tn i h')
    (hi : ∀ (X : Cx) (pins : List (Addr × Obj)) (sg : L2.St) (H : Hp) (s : Shared) (i : Nat), X.prog = P → X.w = w → X.K = K → Inv X pins sg H s → X.A.handled = none → tn i s.heap → J.go i H → ∃ (n : Nat) (fp wr : List Addr) (St : Nat → Heap → Prop) (Y : Nat → Value → Value → Prop),
      GoesN X.prog X.w X.A (.Tuple elts kk tpos) e fp wr n (fun i h0 v h => ∃ T x y, v = .ref T ∧ h0.objs.size ≤ T ∧ Y i x y ∧ h.IsTuple T #[x, y]) St ∧ St i s.heap ∧ i < n ∧ (∀ b ∈ wr, b ∈ ch) ∧ (∀ h', St (i + 1) h' → (∀ b o, b ∉ wr → s.heap.get? b = some o → h'.get? b = some o) → tn (i + 1) h') ∧
      ∀ x y, Y i x y → ∃ a b : V, RelV a x ∧ RelV b y ∧ ∀ T, H T = none → J.yld i H (.ref T) (upd H T (.tup [a, b])))
    (hs : ∀ (X : Cx) (pins : List (Addr × Obj)) (sg : L2.St) (H : Hp) (s : Shared) (i : Nat), X.prog = P → X.w = w → X.K = K → Inv X pins sg H s → X.A.handled = none → tn i s.heap → J.stop i H → ∃ (fp wr : List Addr) (St : Nat → Heap → Prop) (Y : Nat → Heap → Value → Heap → Prop) (n : Nat),
      GoesN X.prog X.w X.A (.Tuple elts kk tpos) e fp wr n Y St ∧ St n s.heap ∧ ∀ b ∈ wr, b ∈ ch)
    (hself : ∀ (A : Around) (i : Nat) (s : Shared) (Q : Value → Shared → Prop) (E : Value → Shared → Prop), tn i s.heap → Q (.ref e) s → wpAny (model P w) A (pyIter (.ref e)) Q E s) :
    Turn P w K (.Tuple elts kk tpos) J ch e tn where
  mem := hm
  obj := ho
  keep := hk
  item := by
    intro X hP hw hK hc i pins s sg H E I hf st hg
    obtain ⟨n, fp, wr, St, Y, W, stN, lt, sub, up, yl⟩ := hi X pins sg H s i hP hw hK I (I.ok.hd hc) st hg
    subst hP hw hK
    refine W.goes i s _ _ lt stN fun v h' tk hY st' kk' htk => ?_
    obtain ⟨T, x, y, rfl, hT, hxy, o, ho', hc', nn, hd'⟩ := hY
    obtain ⟨a, b, ra, rb, yy⟩ := yl x y hxy
    have free : H T = none := I.hok.fresh hT
    have new : ObjOk X.prog X.w (upd H T (.tup [a, b])) h' T (.tup [a, b]) := ⟨by show 2 ≤ sizeLine; decide, [x, y], .cons ra (.cons rb .nil), ⟨o, ho', hc', nn, hd'⟩⟩
    have I1 : Inv X pins sg (upd H T (.tup [a, b])) { s with heap := h', toks := tk } := I.turnedNew (ch := ch) (fun c u hc hu => kk' c u (fun z => hc (sub c z)) hu) hf hT new
    refine ⟨.ref T, _, I1, rfl, yy T free, up h' st' kk', fun c hcm => ?_⟩
    obtain ⟨oc, hoc, _⟩ := ho i s.heap st c hcm
    have lt : c < s.heap.objs.size := Heap.lt_size hoc
    rw [upd_ne (Nat.ne_of_lt (Nat.lt_of_lt_of_le lt hT))]
    exact (hf c hcm).1
  done := by
    intro X hP hw hK hc i pins s sg H E I hf st hg
    obtain ⟨fp, wr, St, Y, n, W, stN, sub⟩ := hs X pins sg H s i hP hw hK I (I.ok.hd hc) st hg
    subst hP hw hK
    exact W.stops s _ _ stN fun h' tk k _ => I.turnedL (t' := tk) (ch := ch) (fun c u hc hu => k c u (fun z => hc (sub c z)) hu) hf
  self := hself
end DL
namespace DL
open PySem PySem.Spec PyProof.Rows L2

theorem turn_enumG {P : Program} {w : World} {K : PySem.W.Frag} {elts : List Expr} {kk : Nat} {tpos : Pos} (sr : Sr) (e it : Addr) :
    Turn P w K (.Tuple elts kk tpos) (ItE K sr) [e, it] e (fun i h => (∃ old, IsEnum h e it (i : Int) old) ∧ sr.iter h it i ∧ e ≠ it) := by
  refine turn_pairs (by simp) (fun i h st b hb => ?_) (fun i h h' st k => ?_) (fun X pins sg H s i hP hw hK I hh st hg => ?_) (fun X pins sg H s i hP hw hK I hh st hg => ?_) (fun A i s Q E st h => let ⟨⟨_, he⟩, _⟩ := st; wpAny_pyIter_enum he h)
  · obtain ⟨⟨old, he⟩, hi, _⟩ := st
    have e' : b = e ∨ b = it := by simpa using hb
    rcases e' with z | z
    · rw [z]; exact ⟨_, he, fun v q => nomatch q⟩
    · obtain ⟨o, vs, h1, h2⟩ := Sr.iter_obj hi
      rw [z]; exact ⟨o, h1, fun v q => by rw [h2] at q; cases q⟩
  · obtain ⟨⟨old, he⟩, hi, hne⟩ := st
    exact ⟨⟨old, k e (by simp) _ he⟩, Sr.iter_at hi fun o q => k it (by simp) o q, hne⟩
  · obtain ⟨⟨old, he⟩, hi, hne⟩ := st
    obtain ⟨xs, hx, lt⟩ := hg
    subst hK
    obtain ⟨fp, Pv, St, Dr, stN, hif, up, off, val⟩ := Sr.draws I hh hx hi
    have hef : e ∉ fp := fun z => by
      rcases off e z with q | ⟨_, o, vs, n, h1, h2⟩
      · exact hne q
      · rw [he] at h1
        cases h1
        cases h2
    refine ⟨xs.length, e :: fp, [e, it], _, fun i x y => (∃ t, x = .int ((0 : Int) + (i : Int)) t) ∧ Pv i y, (GoesN.enumFrom 0 Dr e hne hef hif).mono fun i h0 v h _ ⟨T, t, x, ev, hn, hp, hT⟩ => ⟨T, _, x, ev, hn, ⟨⟨t, rfl⟩, hp⟩, hT⟩,
      ⟨⟨old, by rw [Int.zero_add]; exact he⟩, stN⟩, lt, fun b hb => hb, fun h' st' _ => ?_, fun x y ⟨⟨t, ex⟩, hp⟩ => ?_⟩
    · obtain ⟨⟨old', he'⟩, st2⟩ := st'
      rw [Int.zero_add] at he'
      exact ⟨⟨old', he'⟩, up _ _ st2, hne⟩
    · obtain ⟨v, hv, rv⟩ := val i y hp
      rw [Int.zero_add] at ex
      subst ex
      exact ⟨.int (i : Nat), v, ⟨t, rfl⟩, rv, fun T hT => ⟨T, v, rfl, hT, rfl, fun ys hy => by rw [Sr.one I hy hx]; exact hv⟩⟩
  · obtain ⟨⟨old, he⟩, hi, hne⟩ := st
    obtain ⟨xs, hx, le⟩ := hg
    subst hK
    obtain ⟨fp, Pv, St, Dr, stN, hif, up, off, val⟩ := Sr.draws I hh hx hi
    have hef : e ∉ fp := fun z => by
      rcases off e z with q | ⟨_, o, vs, n, h1, h2⟩
      · exact hne q
      · rw [he] at h1
        cases h1
        cases h2
    refine ⟨e :: fp, [e, it], _, _, xs.length, GoesN.enumFrom 0 Dr e hne hef hif, ⟨⟨old, ?_⟩, by rw [le]; exact stN⟩, fun b hb => hb⟩
    rw [Int.zero_add, le]
    exact he
/-- zip's cells lie apart -/
structure Zp (z TI TO i1 i2 : Addr) : Prop where
  a1 : TI ≠ z
  a2 : TO ≠ z
  a3 : TI ≠ TO
  a4 : TI ≠ i1
  a5 : TI ≠ i2
  a6 : TO ≠ i1
  a7 : TO ≠ i2
  a8 : z ≠ i1
  a9 : z ≠ i2
  b1 : i1 ≠ i2
theorem turn_zipG {P : Program} {w : World} {K : PySem.W.Frag} {elts : List Expr} {kk : Nat} {tpos : Pos} (s1 s2 : Sr) {z TI TO i1 i2 : Addr} (Z : Zp z TI TO i1 i2) (hz0 : ∀ b ∈ s1.src ++ s2.src, b ≠ TO ∧ b ≠ TI) :
    Turn P w K (.Tuple elts kk tpos) (ItZ K s1 s2) [z, TI, TO, i1, i2] z (fun i h => IsZip h z TI TO .none ∧ IsTupOf2 h TI (.ref i1) (.ref i2) ∧ (∃ x y, IsTupOf2 h TO x y) ∧ s1.iter h i1 i ∧ s2.iter h i2 i) := by
  have key : ∀ (X : Cx) (pins : List (Addr × Obj)) (sg : L2.St) (H : Hp) (s : Shared) (i : Nat) (xs ys : List V), X.K = K → Inv X pins sg H s → X.A.handled = none → IsZip s.heap z TI TO .none → s1.iter s.heap i1 i → s2.iter s.heap i2 i → s1.has X.K H xs → s2.has X.K H ys →
      ∃ (fp1 fp2 : List Addr) (P1 P2 : Nat → Value → Prop) (S1 S2 : Nat → Heap → Prop), ZipSep2 z TI TO i1 i2 fp1 fp2 ∧ Draws X.prog X.w X.A.in1 i1 fp1 xs.length P1 S1 ∧ Draws X.prog X.w X.A.in1 i2 fp2 ys.length P2 S2 ∧ S1 i s.heap ∧ S2 i s.heap ∧ (∀ j h', S1 j h' → s1.iter h' i1 j) ∧ (∀ j h', S2 j h' → s2.iter h' i2 j) ∧
        (∀ j u, P1 j u → ∃ v, xs[j]? = some v ∧ RelV v u) ∧ ∀ j u, P2 j u → ∃ v, ys[j]? = some v ∧ RelV v u := fun X pins sg H s i xs ys hK I hh hz h1 h2 hx hy => by
    obtain ⟨fp1, P1, S1, D1, st1, m1, u1, o1, v1⟩ := Sr.draws I hh (by rw [hK] at *; exact hx) h1
    obtain ⟨fp2, P2, S2, D2, st2, m2, u2, o2, v2⟩ := Sr.draws I hh (by rw [hK] at *; exact hy) h2
    have not : ∀ {sr : Sr} {it : Addr} {fp : List Addr}, (∀ b ∈ fp, b = it ∨ (b ∈ sr.src ∧ ∃ o vs n, s.heap.get? b = some o ∧ o.data = .seq vs n)) → ∀ c, c ≠ it → (∃ o vs, s.heap.get? c = some o ∧ o.data = .fields vs) → c ∉ fp := fun off c ne ⟨o, vs, g1, g2⟩ hm => by
      rcases off c hm with q | ⟨_, o', vs', n, g3, g4⟩
      · exact ne q
      · rw [g1] at g3
        cases g3
        rw [g2] at g4
        cases g4
    have notT : ∀ {sr : Sr} {it : Addr} {fp : List Addr}, (∀ b ∈ fp, b = it ∨ (b ∈ sr.src ∧ ∃ o vs n, s.heap.get? b = some o ∧ o.data = .seq vs n)) → TO ≠ it → (∀ b ∈ sr.src, b ≠ TO) → TO ∉ fp := fun off ne ns hm => by
      rcases off TO hm with q | ⟨q, _⟩
      · exact ne q
      · exact ns TO q rfl
    have fz : ∃ o vs, s.heap.get? z = some o ∧ o.data = .fields vs := ⟨_, _, hz, rfl⟩
    exact ⟨fp1, fp2, P1, P2, S1, S2, ⟨Z.a1, Z.a2, Z.a3, Z.a4, m1, not o1 z Z.a8 fz, notT o1 Z.a6 fun b hb => (hz0 b (List.mem_append_left _ hb)).1, Z.a5, m2, not o2 z Z.a9 fz, notT o2 Z.a7 fun b hb => (hz0 b (List.mem_append_right _ hb)).1,
      not o2 i1 Z.b1 (Sr.iter_obj h1), not o1 i2 (Ne.symm Z.b1) (Sr.iter_obj h2)⟩, D1, D2, st1, st2, u1, u2, v1, v2⟩
  refine turn_pairs (by simp) (fun i h st b hb => ?_) (fun i h h' st k => ?_) (fun X pins sg H s i hP hw hK I hh st hg => ?_) (fun X pins sg H s i hP hw hK I hh st hg => ?_) (fun A i s Q E st h => wpAny_pyIter_zip st.1 h)
  · obtain ⟨h1, h2, ⟨x, y, h3⟩, h4, h5⟩ := st
    have e' : b = z ∨ b = TI ∨ b = TO ∨ b = i1 ∨ b = i2 := by simpa using hb
    rcases e' with q | q | q | q | q
    · rw [q]; exact ⟨_, h1, fun v q => nomatch q⟩
    · rw [q]; exact ⟨_, h2, fun v q => nomatch q⟩
    · rw [q]; exact ⟨_, h3, fun v q => nomatch q⟩
    · obtain ⟨o, vs, g1, g2⟩ := Sr.iter_obj h4
      rw [q]; exact ⟨o, g1, fun v q => by rw [g2] at q; cases q⟩
    · obtain ⟨o, vs, g1, g2⟩ := Sr.iter_obj h5
      rw [q]; exact ⟨o, g1, fun v q => by rw [g2] at q; cases q⟩
  · obtain ⟨h1, h2, ⟨x, y, h3⟩, h4, h5⟩ := st
    exact ⟨k z (by simp) _ h1, k TI (by simp) _ h2, ⟨x, y, k TO (by simp) _ h3⟩, Sr.iter_at h4 fun o q => k i1 (by simp) o q, Sr.iter_at h5 fun o q => k i2 (by simp) o q⟩
  · obtain ⟨h1, h2, ⟨x0, y0, h3⟩, h4, h5⟩ := st
    obtain ⟨xs, ys, hx, hy, l1, l2⟩ := hg
    obtain ⟨fp1, fp2, P1, P2, S1, S2, Zs, D1, D2, st1, st2, u1, u2, v1, v2⟩ := key X pins sg H s i xs ys hK I hh h1 h4 h5 (by rw [hK]; exact hx) (by rw [hK]; exact hy)
    refine ⟨_, _, [z, TO, i1, i2], _, fun i x y => P1 i x ∧ P2 i y, (GoesN.zip2 Zs D1 D2).mono fun i h0 v h _ ⟨T, x, y, ev, hn, p1, p2, hT⟩ => ⟨T, x, y, ev, hn, ⟨p1, p2⟩, hT⟩, ⟨h1, h2, ⟨x0, y0, h3⟩, st1, st2⟩, by omega, fun b hb => ?_, fun h' st' k => ?_, fun x y ⟨p1, p2⟩ => ?_⟩
    · simp at hb ⊢
      rcases hb with q | q | q | q <;> simp [q]
    · obtain ⟨g1, g2, g3, g4, g5⟩ := st'
      exact ⟨g1, g2, g3, u1 _ _ g4, u2 _ _ g5⟩
    · obtain ⟨v, hv, rv⟩ := v1 i x p1
      obtain ⟨u, hu, ru⟩ := v2 i y p2
      subst hK
      exact ⟨v, u, rv, ru, fun T hT => ⟨T, v, u, rfl, hT, rfl, fun q hq => by rw [Sr.one I hq hx]; exact hv, fun q hq => by rw [Sr.one I hq hy]; exact hu⟩⟩
  · obtain ⟨h1, h2, ⟨x0, y0, h3⟩, h4, h5⟩ := st
    obtain ⟨xs, ys, hx, hy, le⟩ := hg
    obtain ⟨fp1, fp2, P1, P2, S1, S2, Zs, D1, D2, st1, st2, u1, u2, v1, v2⟩ := key X pins sg H s i xs ys hK I hh h1 h4 h5 (by rw [hK]; exact hx) (by rw [hK]; exact hy)
    refine ⟨_, [z, TO, i1, i2], _, _, min xs.length ys.length, GoesN.zip2 Zs D1 D2, ?_, fun b hb => ?_⟩
    · rw [le]
      exact ⟨h1, h2, ⟨x0, y0, h3⟩, st1, st2⟩
    · simp at hb ⊢
      rcases hb with q | q | q | q <;> simp [q]
/-! ### how they begin -/
/-- the iterator's object, where the source stands -/
def Sr.val : Sr → Value → Prop
  | .L a, v => v = .ref a
  | .T a, v => v = .ref a
  | .S z, v => ∃ t, v = .str z t
theorem Sr.begins {X : Cx} {pins : List (Addr × Obj)} {sg : L2.St} {H : Hp} {s : Shared} {sr : Sr} {xs : List V} {v : Value} (I : Inv X pins sg H s) (h : sr.has X.K H xs) (e : sr.val v) : ∃ (o : Obj) (G : Heap → Prop), Begins v o G ∧ G s.heap ∧ (∀ (h' : Heap) (it : Addr), h'.get? it = some o → sr.iter h' it 0) ∧ ∀ b ∈ sr.src, b < s.heap.objs.size := by
  cases sr with
  | L a =>
    cases (show v = .ref a from e)
    obtain ⟨its, rv, p, hz⟩ := I.list h
    obtain ⟨o, ho, _⟩ := p.isList
    exact ⟨_, _, begins_list a its.toArray, p.isList, fun h' it z => ⟨_, z, rfl, rfl⟩, fun b hb => by rw [List.mem_singleton.mp hb]; exact Heap.lt_size ho⟩
  | T a =>
    cases (show v = .ref a from e)
    obtain ⟨its, rv, p, hz⟩ := I.tuple h
    have p' : s.heap.IsTuple a its.toArray := p
    obtain ⟨o, ho, _⟩ := id p'
    exact ⟨_, _, begins_tuple a its.toArray, p', fun h' it z => ⟨_, z, rfl, rfl⟩, fun b hb => by rw [List.mem_singleton.mp hb]; exact Heap.lt_size ho⟩
  | S z =>
    obtain ⟨t, rfl⟩ := e
    exact ⟨_, _, begins_text z t, trivial, fun h' it q => ⟨t, _, q, rfl, rfl⟩, fun b hb => by cases hb⟩
def Sr.v : Sr → V
  | .L a => .ref a
  | .T a => .ref a
  | .S z => .str z
theorem Sr.val_of {sr : Sr} {u : Value} (r : RelV sr.v u) : sr.val u := by
  cases sr with
  | L a => exact r
  | T a => exact r
  | S z => exact r
def iEnumG (K : PySem.W.Frag) (ta : TA) : TI := fun sg H R => ta sg H fun vs H1 => ∃ sr xs, vs = [Sr.v sr] ∧ sr.has K H1 xs ∧ R (ItE K sr) H1
theorem pi_enumG {X : Cx} {e : Expr} {ta : TA} {p pos tpos : Pos} {elts : List Expr} {kk : Nat} (hg : Gl X "enumerate") (hm : X.mg "enumerate" = none) (ha : PA X [e] ta) (hs : starEach [e] X.env = [(false, eval e X.env)] := by rfl) :
    PI X (.Tuple elts kk tpos) (.Call (.Name "enumerate" p) [e] [] pos) (iEnumG X.K ta) := by
  refine ⟨fun pins s sg H R I h => ?_⟩
  refine Call_ (ld_blt I hg hm boot_enumerate (PyProof.Rows.callWith_type1 (thn (ha.run pos pins s sg H _ I h) fun us s1 ⟨vs, H1, I1, r1, sr, xs, ex, hx, q⟩ => ?_) hs rfl))
  subst ex
  cases r1 with
  | cons r rr =>
    cases rr
    obtain ⟨o, G, B, hG, itr, _⟩ := Sr.begins I1 hx (Sr.val_of r)
    refine enum_begins1 B hG fun h' he hit hsz hk => wpAny_pyIter_enum he ?_
    have I2 : Inv X pins sg H1 { s1 with heap := h' } := I1.kept (t' := s1.toks) hk
    refine ⟨s1.heap.objs.size + 1, [s1.heap.objs.size + 1, s1.heap.objs.size], _, _, H1, rfl, I2, turn_enumG sr (s1.heap.objs.size + 1) s1.heap.objs.size, ⟨⟨.none, he⟩, itr _ _ hit, Nat.succ_ne_self _⟩, fun b hb => ?_, q⟩
    have e' : b = s1.heap.objs.size + 1 ∨ b = s1.heap.objs.size := by simpa using hb
    have hle : s1.heap.objs.size ≤ b := by
      rcases e' with z | z
      · rw [z]; exact Nat.le_add_right _ _
      · rw [z]; exact Nat.le_refl _
    exact I1.fpOk hle (I1.hok.fresh hle)
def iZipG (K : PySem.W.Frag) (ta : TA) : TI := fun sg H R => ta sg H fun vs H1 => ∃ s1 s2 xs ys, vs = [Sr.v s1, Sr.v s2] ∧ s1.has K H1 xs ∧ s2.has K H1 ys ∧ R (ItZ K s1 s2) H1
theorem pi_zipG {X : Cx} {e e2 : Expr} {ta : TA} {p pos tpos : Pos} {elts : List Expr} {kk : Nat} (hg : Gl X "zip") (hm : X.mg "zip" = none) (ha : PA X [e, e2] ta)
    (hs : starEach [e, e2] X.env = (false, eval e X.env) :: starEach [e2] X.env := by rfl) (hpl : (backTo pos (starEach [e2] X.env)).any (·.1) = false := by rfl) :
    PI X (.Tuple elts kk tpos) (.Call (.Name "zip" p) [e, e2] [] pos) (iZipG X.K ta) := by
  refine ⟨fun pins s sg H R I h => ?_⟩
  refine Call_ (ld_blt I hg hm PyProof.Rows.boot_zip (PyProof.Rows.callWith_type1 (thn (ha.run pos pins s sg H _ I h) fun us s1 ⟨vs, H1, I1, r1, sr1, sr2, xs, ys, ex, hx, hy, q⟩ => ?_) hs hpl))
  subst ex
  cases r1 with
  | cons r rr =>
    cases rr with
    | cons r' rr =>
      cases rr
      obtain ⟨o1, G1, B1, hG1, itr1, lt1⟩ := Sr.begins I1 hx (Sr.val_of r)
      obtain ⟨o2, G2, B2, hG2, itr2, lt2⟩ := Sr.begins I1 hy (Sr.val_of r')
      refine zip_begins2 B1 B2 hG1 hG2 fun h' hz hTI hTO hi1 hi2 hsz hk => wpAny_pyIter_zip hz ?_
      have I2 : Inv X pins sg H1 { s1 with heap := h' } := I1.kept (t' := s1.toks) hk
      generalize hN : s1.heap.objs.size = N at *
      have Z : Zp (N + 4) (N + 2) (N + 3) N (N + 1) := ⟨by show (N + 2 : Nat) ≠ N + 4; omega, by show (N + 3 : Nat) ≠ N + 4; omega, by show (N + 2 : Nat) ≠ N + 3; omega, by show (N + 2 : Nat) ≠ N; omega, by show (N + 2 : Nat) ≠ N + 1; omega, by show (N + 3 : Nat) ≠ N; omega, by show (N + 3 : Nat) ≠ N + 1; omega, by show (N + 4 : Nat) ≠ N; omega, by show (N + 4 : Nat) ≠ N + 1; omega, by show (N : Nat) ≠ N + 1; omega⟩
      refine ⟨N + 4, [N + 4, N + 2, N + 3, N, N + 1], _, _, H1, rfl, I2, turn_zipG sr1 sr2 Z fun b hb => ?_, ⟨hz, hTI, ⟨_, _, hTO⟩, itr1 _ _ hi1, itr2 _ _ hi2⟩, fun c hcm => ?_, q⟩
      · have lt : b < N := by
          rcases List.mem_append.mp hb with hb | hb
          · exact lt1 b hb
          · exact lt2 b hb
        exact ⟨Nat.ne_of_lt (Nat.lt_of_lt_of_le lt (Nat.le_add_right _ _)), Nat.ne_of_lt (Nat.lt_of_lt_of_le lt (Nat.le_add_right _ _))⟩
      · have hle : (N : Nat) ≤ c := by
          have e' : c = N + 4 ∨ c = N + 2 ∨ c = N + 3 ∨ c = N ∨ c = N + 1 := by simpa using hcm
          rcases e' with z | z | z | z | z <;> rw [z]
          · exact Nat.le_add_right _ _
          · exact Nat.le_add_right _ _
          · exact Nat.le_add_right _ _
          · exact Nat.le_refl _
          · exact Nat.le_add_right _ _
        exact I1.fpOk (by rw [hN]; exact hle) (I1.hok.fresh (by rw [hN]; exact hle))
end DL
namespace DL
open PySem PySem.Spec PyProof.Rows L2

/-! ### what is gone through, told -/
def txtD (z : Str) : List D := z.cps.toList.map fun c => D.str ⟨#[c]⟩
def chkOk (c : Option (Stor → Bool)) (S : Stor) : Bool := match c with
  | none => true
  | some f => f S
def andC : Option (Stor → Bool) → Option (Stor → Bool) → Option (Stor → Bool)
  | none, c => c
  | some f, none => some f
  | some f, some g => some fun S => f S && g S
theorem andC_ok {a b : Option (Stor → Bool)} {S : Stor} (h : chkOk (andC a b) S = true) : chkOk a S = true ∧ chkOk b S = true := by
  cases a with
  | none => exact ⟨rfl, h⟩
  | some f => cases b with
    | none => exact ⟨h, rfl⟩
    | some g =>
      have h : (f S && g S) = true := h
      rw [Bool.and_eq_true] at h
      exact h
def SrcI (K : PySem.W.Frag) (fa : FA) (F : Hp) (m : List Addr) (sr : Sr) (xs : List D) (c : Option (Stor → Bool)) : Prop :=
  ∀ (x m' : List Addr) (H' : Hp) (S : Stor), (∃ t, m' = m ++ t) → Same F (fz (m' ++ x) H') → SRel K fa x m' H' S → chkOk c S = true → ∃ vs, sr.has K H' vs ∧ RepL K fa (fz (m' ++ x) H') vs xs
theorem txt_rep {K : PySem.W.Frag} {fa : FA} {F : Hp} (z : Str) : RepL K fa F (txtV z) (txtD z) := by
  unfold txtV txtD
  generalize z.cps.toList = l
  induction l with
  | nil => exact .nil
  | cons c l ih => exact .cons (.str _) ih
/-- the items of a list, a tuple, a text -/
def seqOf (S : Stor) : W → Option (List D × Option (Stor → Bool))
  | .d (.lst xs) => some (xs, none)
  | .d (.tup xs) => some (xs, none)
  | .d (.str z) => some (txtD z, none)
  | .r n => match S[n]? with
    | some (.lst xs) => some (xs, some (isLst n xs))
    | _ => none
  | _ => none
section
variable {K : PySem.W.Frag} {fa : FA} {x m : List Addr} {H : Hp} {S : Stor}
theorem seqOf_src (s : SRel K fa x m H S) {v : V} {w : W} {xs : List D} {c : Option (Stor → Bool)} (r : RepW K fa (fz (m ++ x) H) m v w) (e : seqOf S w = some (xs, c)) :
    ∃ sr, v = Sr.v sr ∧ SrcI K fa (fz (m ++ x) H) m sr xs c ∧ ∃ vs, sr.has K H vs := by
  have now : ∀ {sr : Sr} {xs : List D} {c : Option (Stor → Bool)}, SrcI K fa (fz (m ++ x) H) m sr xs c → chkOk c S = true → ∃ vs, sr.has K H vs := fun h hc => by
    obtain ⟨vs, h1, _⟩ := h x m H S ⟨[], by simp⟩ (fun _ _ z => z) s hc
    exact ⟨vs, h1⟩
  cases w with
  | l => cases e
  | r n =>
    unfold seqOf at e
    dsimp only at e
    split at e
    · rename_i xs0 q
      cases e
      obtain ⟨a, ha, rfl⟩ := r
      have h : SrcI K fa (fz (m ++ x) H) m (.L a) xs (some (isLst n xs)) := fun x2 m2 H2 S2 ⟨t, e2⟩ e s2 c => by
        have c' := isLst_at (show isLst n xs S2 = true from c)
        have ha2 : m2[n]? = some a := by rw [e2, List.getElem?_append_left (List.getElem?_eq_some_iff.mp ha).1]; exact ha
        obtain ⟨vs, h1, r⟩ := s2.cell n a _ ha2 c'
        exact ⟨vs, .inl (.inl h1), r⟩
      exact ⟨.L a, rfl, h, now h (by show isLst n xs S = true; unfold isLst; rw [q]; exact beqs_self xs)⟩
    · cases e
  | d y =>
    cases y with
    | lst xs0 =>
      cases e
      cases r with
      | @lst a vs _ h1 h2 =>
        have h : SrcI K fa (fz (m ++ x) H) m (.L a) xs none := fun x2 m2 H2 S2 _ e s2 _ => ⟨vs, fz_sub.seq (e.seq h1), RepL.mono e _ _ h2⟩
        exact ⟨.L a, rfl, h, now h rfl⟩
    | tup xs0 =>
      cases e
      cases r with
      | @tup a vs _ h1 h2 =>
        have h : SrcI K fa (fz (m ++ x) H) m (.T a) xs none := fun x2 m2 H2 S2 _ e s2 _ => ⟨vs, same_sqt fz_sub (same_sqt e h1), RepL.mono e _ _ h2⟩
        exact ⟨.T a, rfl, h, now h rfl⟩
    | str z =>
      cases e
      cases r
      have h : SrcI K fa (fz (m ++ x) H) m (.S z) (txtD z) none := fun x2 m2 H2 S2 _ e s2 _ => ⟨_, rfl, txt_rep z⟩
      exact ⟨.S z, rfl, h, now h rfl⟩
    | _ => cases e
theorem RelI.enumG {F : Hp} {sr : Sr} {xs : List D} {c : Option (Stor → Bool)} (h : SrcI K fa F m sr xs c) : RelI K fa F m (ItE K sr) ⟨xs.zipIdx.map fun p => .tup [.int p.2, p.1], c⟩ := fun x2 m2 H2 S2 p e s hc i => by
  obtain ⟨vs, h', r⟩ := h x2 m2 H2 S2 p e s hc
  have hl := r.length
  have hL : (xs.zipIdx.map fun p => D.tup [.int p.2, p.1]).length = xs.length := by simp
  refine ⟨fun hi => ⟨vs, h', by rw [hl, ← hL]; exact hi⟩, fun hi => ⟨vs, h', by rw [hl, ← hL]; exact hi⟩, fun v H' hi hy => ?_⟩
  obtain ⟨q, y, rfl, hq, rfl, hv⟩ := hy
  obtain ⟨d, e, rd⟩ := r.get' (hv vs h')
  refine ⟨.tup [.int i, d], ?_, Step.laid hq, s.laid hq, s.laidT hq (.cons (.int _) (.cons rd .nil))⟩
  show (xs.zipIdx.map fun p => D.tup [.int p.2, p.1])[i]? = _
  rw [List.getElem?_map, List.getElem?_zipIdx, e]
  simp
def zipD (xs ys : List D) : List D := List.zipWith (fun a b => D.tup [a, b]) xs ys
theorem RelI.zipG {F : Hp} {s1 s2 : Sr} {xs ys : List D} {c1 c2 : Option (Stor → Bool)} (h1 : SrcI K fa F m s1 xs c1) (h2 : SrcI K fa F m s2 ys c2) : RelI K fa F m (ItZ K s1 s2) ⟨zipD xs ys, andC c1 c2⟩ := fun x2 m2 H2 S2 p e s hc i => by
  obtain ⟨hc1, hc2⟩ := andC_ok (show chkOk (andC c1 c2) S2 = true from hc)
  obtain ⟨vs, g1, r1⟩ := h1 x2 m2 H2 S2 p e s hc1
  obtain ⟨us, g2, r2⟩ := h2 x2 m2 H2 S2 p e s hc2
  have l1 := r1.length
  have l2 := r2.length
  have hL : (zipD xs ys).length = min xs.length ys.length := by simp [zipD]
  refine ⟨fun hi => ?_, fun hi => ⟨vs, us, g1, g2, by rw [l1, l2, ← hL]; exact hi⟩, fun v H' hi hy => ?_⟩
  · rw [show (Wlk.mk (zipD xs ys) (andC c1 c2)).items.length = _ from hL] at hi
    exact ⟨vs, us, g1, g2, by omega, by omega⟩
  · obtain ⟨q, a, b, rfl, hq, rfl, hv, hu⟩ := hy
    obtain ⟨d1, e1, rd1⟩ := r1.get' (hv vs g1)
    obtain ⟨d2, e2, rd2⟩ := r2.get' (hu us g2)
    refine ⟨.tup [d1, d2], ?_, Step.laid hq, s.laid hq, s.laidT hq (.cons rd1 (.cons rd2 .nil))⟩
    show (zipD xs ys)[i]? = _
    unfold zipD
    rw [List.getElem?_zipWith, e1, e2] <;> rfl
theorem RelI.txt {F : Hp} (z : Str) : RelI K fa F m (Its z) ⟨txtD z, none⟩ := fun x2 m2 H2 S2 _ e s _ i => by
  have hl : (txtD z).length = z.cps.size := by simp [txtD]
  refine ⟨fun hi => ?_, fun hi => ?_, fun v H' hi hy => ?_⟩
  · rw [show (Wlk.mk (txtD z) none).items.length = _ from hl] at hi; exact hi
  · rw [show (Wlk.mk (txtD z) none).items.length = _ from hl] at hi; exact Nat.le_of_eq hi
  · obtain ⟨rfl, c, hc, rfl⟩ := hy
    refine ⟨.str ⟨#[c]⟩, ?_, Step.refl _ _, s, .str _⟩
    show (txtD z)[i]? = _
    unfold txtD
    rw [List.getElem?_map, Array.getElem?_toList, hc] <;> rfl
end
section
variable {X : Cx} {fa : FA} {Wx : WX} {tg e : Expr} {f : Den W}
def kEnum (ws : List W) (S : Stor) : Res Wlk := match ws with
  | [w] => match seqOf S w with
    | some (xs, c) => .ok ⟨xs.zipIdx.map fun p => .tup [.int p.2, p.1], c⟩ S
    | none => .bad
  | _ => .bad
def dEnum (fs : Den (List W)) : Den Wlk := fun rho S => (fs rho S).bind kEnum
theorem di_enum {e : Expr} {fs : Den (List W)} {p pos tpos : Pos} {elts : List Expr} {kk : Nat} (hg : Gl X "enumerate") (hm : X.mg "enumerate" = none) (ha : DA X fa Wx [e] fs) (hs : starEach [e] X.env = [(false, eval e X.env)] := by rfl) :
    DI X fa Wx (.Tuple elts kk tpos) (.Call (.Name "enumerate" p) [e] [] pos) (dEnum fs) := by
  refine PI.imp (pi_enumG hg hm ha hs) fun sg H Q hq => ?_
  show T X.K fa Wx (fun F m vs ws => RepWs X.K fa F m vs ws) fs sg H _
  refine T.one (r3 := fun F m J it => RelI X.K fa F m J it) (g := fun _ => kEnum) (fun _ _ _ q => q) (fun x m H S v a rho at_ ra q => ?_) hq
  unfold kEnum at q
  split at q
  · obtain ⟨v', rfl, rv⟩ := ws1 ra
    split at q
    · rename_i xs c ew
      obtain ⟨sr, rfl, src, vs, hv⟩ := seqOf_src at_.s rv ew
      exact ⟨sr, vs, rfl, hv, After.ok q at_.s (.enumG src)⟩
    · exact q.elim
  · exact q.elim
def kZip (ws : List W) (S : Stor) : Res Wlk := match ws with
  | [w, u] => match seqOf S w, seqOf S u with
    | some (xs, c), some (ys, d) => .ok ⟨zipD xs ys, andC c d⟩ S
    | _, _ => .bad
  | _ => .bad
def dZip (fs : Den (List W)) : Den Wlk := fun rho S => (fs rho S).bind kZip
theorem di_zip {e e2 : Expr} {fs : Den (List W)} {p pos tpos : Pos} {elts : List Expr} {kk : Nat} (hg : Gl X "zip") (hm : X.mg "zip" = none) (ha : DA X fa Wx [e, e2] fs) (hs : starEach [e, e2] X.env = (false, eval e X.env) :: starEach [e2] X.env := by rfl) (hpl : (backTo pos (starEach [e2] X.env)).any (·.1) = false := by rfl) :
    DI X fa Wx (.Tuple elts kk tpos) (.Call (.Name "zip" p) [e, e2] [] pos) (dZip fs) := by
  refine PI.imp (pi_zipG hg hm ha hs hpl) fun sg H Q hq => ?_
  show T X.K fa Wx (fun F m vs ws => RepWs X.K fa F m vs ws) fs sg H _
  refine T.one (r3 := fun F m J it => RelI X.K fa F m J it) (g := fun _ => kZip) (fun _ _ _ q => q) (fun x m H S v a rho at_ ra q => ?_) hq
  unfold kZip at q
  split at q
  · obtain ⟨v1, v2, rfl, r1, r2⟩ := ws2 ra
    split at q
    · rename_i xs c ys d e1 e2
      obtain ⟨s1, rfl, src1, vs1, hv1⟩ := seqOf_src at_.s r1 e1
      obtain ⟨s2, rfl, src2, vs2, hv2⟩ := seqOf_src at_.s r2 e2
      exact ⟨s1, s2, vs1, vs2, rfl, hv1, hv2, After.ok q at_.s (.zipG src1 src2)⟩
    · exact q.elim
  · exact q.elim
/-- a list, a tuple or a text, as it comes -/
theorem pi_seqS {tl : TE} (hl : PE X e tl) : PI X tg e (fun sg H R => tl sg H fun v H1 => (∃ a, v = .ref a ∧ (((∃ xs, SqL X.K H1 a xs) ∧ R (Itl X.K a) H1) ∨ ((∃ xs, SqT X.K H1 a xs) ∧ R (Itt X.K a) H1))) ∨ ∃ z, v = .str z ∧ R (Its z) H1) := by
  refine ⟨fun pins s sg H R I h => ?_⟩
  refine thn (hl.run pins s sg H _ I h) fun v s1 ⟨y, H1, I1, r1, q1⟩ => ?_
  rcases q1 with ⟨a, e1, q1⟩ | ⟨z, e1, q⟩
  · subst e1
    cases r1
    rcases q1 with ⟨⟨xs, hq⟩, q⟩ | ⟨⟨xs, hq⟩, q⟩
    · obtain ⟨its, rv, pl, hz⟩ := I1.list hq
      refine wpAny_pyIter_list pl.isList ⟨s1.heap.objs.size, [s1.heap.objs.size], _, _, H1, rfl, I1.kept (t' := s1.toks) (fun b o z => Heap.get?_push_of_some _ z), turn_list a _, ⟨_, Heap.get?_push_size _ rfl, rfl, rfl⟩, fun b hb => ?_, q⟩
      cases List.mem_singleton.mp hb
      exact I1.fpOk (Nat.le_refl _) I1.fresh
    · obtain ⟨its, rv, pt, hz⟩ := I1.tuple hq
      refine wpAny_pyIter_tuple (show s1.heap.IsTuple a its.toArray from pt) ⟨s1.heap.objs.size, [s1.heap.objs.size], _, _, H1, rfl, I1.kept (t' := s1.toks) (fun b o z => Heap.get?_push_of_some _ z), turn_tuple a _, ⟨_, Heap.get?_push_size _ rfl, rfl, rfl⟩, fun b hb => ?_, q⟩
      cases List.mem_singleton.mp hb
      exact I1.fpOk (Nat.le_refl _) I1.fresh
  · subst e1
    obtain ⟨t, rfl⟩ := (show ∃ t, v = Value.str z t from r1)
    refine wpAny_pyIter_strU (pi_one (tk := s1.toks) I1 _ (turn_str _ z t (strIterType z) ?_) ⟨_, Heap.get?_push_size _ rfl, rfl, rfl⟩ q)
    unfold strIterType
    split
    · exact .inl rfl
    · exact .inr rfl
def kSeqS (w : W) (S : Stor) : Res Wlk := match w with
  | .d (.str z) => .ok ⟨txtD z, none⟩ S
  | w => kSeq w S
def dSeqS (f : Den W) : Den Wlk := fun rho S => (f rho S).bind kSeqS
theorem di_seqS (h : DE X fa Wx e f) : DI X fa Wx tg e (dSeqS f) := by
  refine PI.imp (pi_seqS h) fun sg H Q hq => ?_
  show T X.K fa Wx (relW X.K fa) f sg H _
  refine T.one (r3 := fun F m J it => RelI X.K fa F m J it) (g := fun _ => kSeqS) (fun _ _ _ q => q) (fun x m H S v a rho at_ ra q => ?_) hq
  cases a with
  | l => exact q.elim
  | d y =>
    cases y with
    | str z =>
      cases ra
      exact .inr ⟨z, rfl, After.ok q at_.s (.txt z)⟩
    | lst xs =>
      cases ra with
      | lst h1 h2 => exact .inl ⟨_, rfl, .inl ⟨⟨_, fz_sub.seq h1⟩, After.ok (w := Wlk.mk xs none) q at_.s (.lst h1 h2)⟩⟩
    | tup xs =>
      cases ra with
      | tup h1 h2 => exact .inl ⟨_, rfl, .inr ⟨⟨_, same_sqt fz_sub h1⟩, After.ok (w := Wlk.mk xs none) q at_.s (.tup h1 h2)⟩⟩
    | _ => exact (show False from q).elim
  | r n =>
    obtain ⟨a, ha, rfl⟩ := ra
    unfold kSeqS kSeq at q
    dsimp only at q
    split at q
    · rename_i xs ec
      obtain ⟨vs, h1, h2⟩ := at_.s.cell n a _ ha ec
      exact .inl ⟨_, rfl, .inl ⟨⟨vs, .inl (.inl h1)⟩, After.ok q at_.s (.cell ha)⟩⟩
    · exact q.elim
end
end DL
namespace DL
open PySem PySem.Spec PyProof.Rows L2
section
variable {X : Cx} {fa : FA}
/-! ### xs.extend(ys), both in the store -/
def gExtend (w : W) (ws : List W) (S : Stor) : Res W := match w, ws with
  | .r n, [.r k] => match S[n]?, S[k]? with
    | some (.lst xs), some (.lst ys) => if xs.length + ys.length ≤ 16777216 then .ok (.d .non) (S.set n (.lst (xs ++ ys))) else .bad
    | _, _ => .bad
  | _, _ => .bad
theorem extendD : MethD X fa rExtend gExtend := by
  intro x m H S sg Wx v w vs ws Q s rv rs h
  unfold gExtend at h
  split at h
  · rename_i n k
    obtain ⟨a, ha, rfl⟩ := rv
    obtain ⟨z, rfl, b, hb, rfl⟩ := ws1 rs
    split at h
    · rename_i xs ys e1 e2
      split at h
      · rename_i hz
        obtain ⟨vs, h1, r1⟩ := s.cell n a _ ha e1
        obtain ⟨us, h2, r2⟩ := s.cell k b _ hb e2
        refine ⟨a, b, vs, us, rfl, rfl, h1, h2, by rw [r1.length, r2.length, ← sl16]; exact hz, ?_⟩
        exact h .non m _ (Step.wrote (List.mem_of_getElem? ha)) (s.wrote ha (r1.app r2)) .non
      · exact h.elim
    · exact h.elim
  · exact h.elim

/-! ### s.count(t) -/
def gTCount (w : W) (ws : List W) (S : Stor) : Res W := match ws with
  | [u] => match valD S w, valD S u with
    | some (.str a), some (.str b) => .ok (.d (.int (Txt.count a b))) S
    | _, _ => .bad
  | _ => .bad
theorem tcountD : MethD X fa (fun x xs H Q => ∃ a b, x = .str a ∧ xs = [.str b] ∧ Q (.int (Txt.count a b)) H) gTCount := by
  intro x m H S sg Wx v w vs ws Q s rv rs h
  unfold gTCount at h
  split at h
  · obtain ⟨z, rfl, rz⟩ := ws1 rs
    split at h
    · rename_i a b e1 e2
      exact ⟨a, b, rep_str s rv e1, by rw [rep_str s rz e2], ok_use h s (.int _)⟩
    · exact h.elim
  · exact h.elim

/-! ### xs.count(y), xs.remove(y) of any data -/
def rCountD (K : PySem.W.Frag) : V → List V → Hp → VK → Prop := fun x xs H Q => ∃ (a : Addr) (y : V) (d : PyData) (ds : List PyData), x = V.ref a ∧ xs = [y] ∧ Dp K H (V.ref a) (.list ds) ∧ Dp K H y d ∧ SeqAt.shaped (.list ds) = true ∧ SeqAt.shaped d = true ∧ Q (.int (ds.countP fun z => PyData.eqv z d : Nat)) H
theorem mt_countD (hu : X.A.units + 65 < cLine) : MtR X "list.count" (rCountD X.K) := by
  intro pins s sg H x xs v us Q I rx rxs h
  obtain ⟨a, y, d, ds, rfl, rfl, hl, hy, sl, sd, q⟩ := h
  cases rx
  obtain ⟨uy, rfl, ry⟩ := rxs.one
  obtain ⟨bs, r1⟩ := Dp.reads I d y uy hy ry
  have hxs : PyData.canLayAll0 ds = true := SeqAt.canLay_of_shaped sl
  have hroom : X.A.units + 1 + min (PyData.depthAll ds) d.depth < cLine := room_in_shaped sd hu
  cases hl with
  | lst hs ha =>
    obtain ⟨its, rv, ⟨⟨cls, dd, data, sls⟩, n, ho, hc, hdn, hdt⟩, hlen⟩ := I.list hs
    simp only at hc hdt
    subst hc hdt
    obtain ⟨as, h4⟩ := Dp.readsAll I ds _ its ha rv
    have hmap : its.map (SeqAt.readOf s.heap) = ds := SeqAt.readsAll_map ds its as hxs h4
    refine call_meets PySem.F.slot_list_count ⟨_, ho, rfl⟩ PySem.F.entry_list_count (PySem.F.args_list_count_2 _ _) (SeqAt.list_countAt a its.toArray n dd sls uy (fun u => PyData.eqv (SeqAt.readOf s.heap u) d))
      ⟨ho, SeqAt.items_eqAt (vs := its.toArray) (show ReadsAll s.heap its.toArray.toList ds as from h4) r1 hxs (SeqAt.canLay_of_shaped sd) hroom, ?_⟩
    have ec : its.toArray.toList.countP (fun u => PyData.eqv (SeqAt.readOf s.heap u) d) = ds.countP fun z => PyData.eqv z d := by rw [← hmap, List.countP_map] <;> rfl
    refine ⟨.int (ds.countP fun z => PyData.eqv z d : Nat), H, I.tok _, ⟨s.toks, ?_⟩, q⟩
    rw [ec]
def gCount (w : W) (ws : List W) (S : Stor) : Res W := match ws with
  | [u] => match valD S w, valD S u with
    | some (.lst xs), some y => if (okD y && okD (.lst xs)) = true then .ok (.d (.int (xs.countP fun z => PyData.eqv z.pd y.pd : Nat))) S else .bad
    | _, _ => .bad
  | _ => .bad
theorem dp_ref {K : PySem.W.Frag} {H : Hp} {v : V} {ds : List PyData} (h : Dp K H v (.list ds)) : ∃ a, v = .ref a := by
  cases h with
  | lst hs _ => exact ⟨_, rfl⟩
theorem countD : MethD X fa (rCountD X.K) gCount := by
  intro x m H S sg Wx v w vs ws Q s rv rs h
  unfold gCount at h
  split at h
  · obtain ⟨z, rfl, rz⟩ := ws1 rs
    split at h
    · rename_i xs y e1 e2
      split at h
      · rename_i hh
        unfold okD at hh
        simp only [Bool.and_eq_true] at hh
        have e3 : (D.lst xs).pd = .list (pds xs) := by rw [D.pd]
        have g1 : Dp X.K H v (.list (pds xs)) := by rw [← e3]; exact rep_dp s rv e1 hh.2.1
        obtain ⟨a, rfl⟩ := dp_ref g1
        refine ⟨a, z, y.pd, pds xs, rfl, rfl, g1, rep_dp s rz e2 hh.1.1, by rw [← e3]; exact hh.2.2, hh.1.2, ?_⟩
        rw [pds_map, List.countP_map]
        exact ok_use h s (.int _)
      · exact h.elim
    · exact h.elim
  · exact h.elim
def rRemD (K : PySem.W.Frag) : V → List V → Hp → VK → Prop := fun x xs H Q => ∃ (a : Addr) (vs : List V) (y : V) (d : PyData) (ds : List PyData) (j : Nat) (z : PyData), x = V.ref a ∧ xs = [y] ∧ H a = some (.lst vs) ∧ DpAll K H vs ds ∧ Dp K H y d ∧
  SeqAt.shaped (.list ds) = true ∧ SeqAt.shaped d = true ∧ ds[j]? = some z ∧ PyData.eqv z d = true ∧ (∀ (m : Nat) (z' : PyData), m < j → ds[m]? = some z' → PyData.eqv z' d = false) ∧ Q .non (upd H a (.lst (vs.eraseIdx j)))
theorem mt_remD (hu : X.A.units + 65 < cLine) : MtM X "list.remove" (rRemD X.K) := by
  intro pins s sg H x xs v us Q I rx rxs h
  obtain ⟨a, vs, y, d, ds, j, z, rfl, rfl, hH, hl, hy, sl, sd, hz, hzj, hno, q⟩ := h
  cases rx
  obtain ⟨uy, rfl, ry⟩ := rxs.one
  obtain ⟨bs, r1⟩ := Dp.reads I d y uy hy ry
  have hxs : PyData.canLayAll0 ds = true := SeqAt.canLay_of_shaped sl
  have hroom : X.A.units + 1 + min (PyData.depthAll ds) d.depth < cLine := room_in_shaped sd hu
  obtain ⟨z0, its, n, r, hlen, e⟩ := I.lstM hH
  obtain ⟨as, h4⟩ := Dp.readsAll I ds _ its hl r
  have hn : its.length = ds.length := SeqAt.ReadsAll.length ds its as h4
  have hmap : its.map (SeqAt.readOf s.heap) = ds := SeqAt.readsAll_map ds its as hxs h4
  obtain ⟨hjd, _⟩ := List.getElem?_eq_some_iff.mp hz
  have hjl : j < its.length := by omega
  have hj : j < its.toArray.size := by simpa using hjl
  have at_ : ∀ (m : Nat) (hm : m < its.toArray.size) (z' : PyData), ds[m]? = some z' → SeqAt.readOf s.heap its.toArray[m] = z' := fun m hm z' hz' => by
    have hml : m < its.length := by simpa using hm
    rw [← hmap, List.getElem?_map, List.getElem?_eq_getElem hml] at hz'
    have e1 := Option.some.inj (show some (SeqAt.readOf s.heap its[m]) = some z' from hz')
    simpa using e1
  have hsl := sizeLine_eq
  have hrl := r.length
  refine call_meets PySem.F.slot_list_remove ⟨_, e, rfl⟩ PySem.F.entry_list_remove (PySem.F.args_list_remove_2 _ _)
    (SeqAt.list_removeAt a its.toArray n none #[] uy (fun u => PyData.eqv (SeqAt.readOf s.heap u) d) j hj ?_ ?_ (by rw [List.size_toArray]; omega)) ⟨e, SeqAt.items_eqAt (vs := its.toArray) (show ReadsAll s.heap its.toArray.toList ds as from h4) r1 hxs (SeqAt.canLay_of_shaped sd) hroom, ?_⟩
  · show PyData.eqv (SeqAt.readOf s.heap its.toArray[j]) d = true
    rw [at_ j hj z hz]
    exact hzj
  · intro m hm hmj
    have hz' : ds[m]? = some ds[m] := List.getElem?_eq_getElem (by omega)
    show PyData.eqv (SeqAt.readOf s.heap its.toArray[m]) d = false
    rw [at_ m hm _ hz']
    exact hno m _ hmj hz'
  · refine ⟨.non, _, I.lset (its' := its.eraseIdx j) (t' := s.toks) hH e ?_ (r.eraseIdx j) ?_, rfl, q⟩
    · show its.toArray.eraseIdxIfInBounds j = (its.eraseIdx j).toArray
      rw [List.eraseIdxIfInBounds_toArray]
    · have z2 := List.length_eraseIdx_le vs j
      omega
/-- where the first one stands -/
def firstEq (xs : List D) (y : D) : Nat → Option Nat := fun k => match xs with
  | [] => none
  | x :: r => if PyData.eqv x.pd y.pd = true then some k else firstEq r y (k + 1)
theorem firstEq_some : ∀ {xs : List D} {y : D} {k j : Nat}, firstEq xs y k = some j → k ≤ j ∧ ∃ z, xs[j - k]? = some z ∧ PyData.eqv z.pd y.pd = true ∧ ∀ (m : Nat) (z' : D), m < j - k → xs[m]? = some z' → PyData.eqv z'.pd y.pd = false
  | [], _, _, _, e => by cases e
  | x :: r, y, k, j, e => by
    unfold firstEq at e
    by_cases h : PyData.eqv x.pd y.pd = true
    · rw [if_pos h] at e
      cases e
      refine ⟨Nat.le_refl _, x, by simp, h, fun m z' hm => by omega⟩
    · rw [if_neg h] at e
      obtain ⟨h1, z, h2, h3, h4⟩ := firstEq_some e
      refine ⟨by omega, z, ?_, h3, fun m z' hm hz => ?_⟩
      · rw [show j - k = (j - (k + 1)) + 1 by omega, List.getElem?_cons_succ]
        exact h2
      · cases m with
        | zero =>
          simp at hz
          subst hz
          exact Bool.not_eq_true _ ▸ h
        | succ m => exact h4 m z' (by omega) (by simpa using hz)
def gRemove (w : W) (ws : List W) (S : Stor) : Res W := match w, ws with
  | .r n, [u] => match S[n]?, valD S u with
    | some (.lst xs), some y => if (okD y && okD (.lst xs)) = true then match firstEq xs y 0 with
        | some j => .ok (.d .non) (S.set n (.lst (xs.eraseIdx j)))
        | none => .bad
      else .bad
    | _, _ => .bad
  | _, _ => .bad
theorem removeD : MethD X fa (rRemD X.K) gRemove := by
  intro x m H S sg Wx v w vs ws Q s rv rs h
  unfold gRemove at h
  split at h
  · rename_i n u
    obtain ⟨a, ha, rfl⟩ := rv
    obtain ⟨z, rfl, rz⟩ := ws1 rs
    split at h
    · rename_i xs y ec ey
      obtain ⟨us, h1, h2⟩ := s.cell n a _ ha ec
      split at h
      · rename_i hh
        unfold okD at hh
        simp only [Bool.and_eq_true] at hh
        have e3 : (D.lst xs).pd = .list (pds xs) := by rw [D.pd]
        have hp : pures xs = true := by
          have := hh.2.1
          rwa [D.pure] at this
        split at h
        · rename_i j ej
          obtain ⟨_, z', g1, g2, g3⟩ := firstEq_some ej
          refine ⟨a, us, z, y.pd, pds xs, j, z'.pd, rfl, rfl, h1, RepL.dp _ _ (RepL.mono fz_sub _ _ h2) hp, rep_dp s rz ey hh.1.1, by rw [← e3]; exact hh.2.2, hh.1.2, ?_, g2, fun m q hm hq => ?_, ?_⟩
          · rw [Nat.sub_zero] at g1; rw [pds_map, List.getElem?_map, g1] <;> rfl
          · rw [pds_map, List.getElem?_map] at hq
            cases hx : xs[m]? with
            | none => rw [hx] at hq; cases hq
            | some q' =>
              rw [hx] at hq
              cases hq
              exact g3 m q' (by omega) hx
          · exact h .non m _ (Step.wrote (List.mem_of_getElem? ha)) (s.wrote ha (h2.erase j)) .non
        · exact h.elim
      · exact h.elim
    · exact h.elim
  · exact h.elim
end
end DL
namespace DL
open PySem PySem.Spec PyProof.Rows L2 StX
def topS (i : Nat) : Stmt := PySem.Challenge.pw_fitfloors_k00_whole_pieces.main.body.getD i (.Pass ⟨0, 0, 0, 0⟩)
section
variable {P : Program} {w : World} {K : PySem.W.Frag} {mg : Str → Option Value} {base : Heap} {fa : FA} {fd : Nat → FuncData}
structure Facts (K : PySem.W.Frag) (mg : Str → Option Value) (fa : Nat → Addr) (fd : Nat → FuncData) : Prop where
  g__law_alike : mg "_law_alike" = some (.ref (fa 24))
  F__law_alike : Fun K "_law_alike" "_law_alike" (topS 32) (fa 24) (fd 24)
  k__law_alike : PySem.W.keepIn K (.ref (fa 24)) = true
  b__law_alike : Binds K (fd 24) ["found", "due"] []
  g__law_settle : mg "_law_settle" = some (.ref (fa 25))
  F__law_settle : Fun K "_law_settle" "_law_settle" (topS 33) (fa 25) (fd 25)
  k__law_settle : PySem.W.keepIn K (.ref (fa 25)) = true
  b__law_settle : Binds K (fd 25) ["cells"] []
  g__law_forms : mg "_law_forms" = some (.ref (fa 26))
  F__law_forms : Fun K "_law_forms" "_law_forms" (topS 34) (fa 26) (fd 26)
  k__law_forms : PySem.W.keepIn K (.ref (fa 26)) = true
  b__law_forms : Binds K (fd 26) ["piece", "is_flipped"] []
  g__law_all_pieces : mg "_law_all_pieces" = some (.ref (fa 41))
  F__law_all_pieces : Fun K "_law_all_pieces" "_law_all_pieces" (topS 49) (fa 41) (fd 41)
  k__law_all_pieces : PySem.W.keepIn K (.ref (fa 41)) = true
  b__law_all_pieces : Binds K (fd 41) ["many"] []
  g__law_taken : mg "_law_taken" = some (.ref (fa 22))
  F__law_taken : Fun K "_law_taken" "_law_taken" (topS 30) (fa 22) (fd 22)
  k__law_taken : PySem.W.keepIn K (.ref (fa 22)) = true
  b__law_taken : Binds K (fd 22) ["row", "many"] []
  g__law_pick : mg "_law_pick" = some (.ref (fa 23))
  F__law_pick : Fun K "_law_pick" "_law_pick" (topS 31) (fa 23) (fd 23)
  k__law_pick : PySem.W.keepIn K (.ref (fa 23)) = true
  b__law_pick : Binds K (fd 23) ["row", "things"] []
  g__law_grown : mg "_law_grown" = some (.ref (fa 39))
  F__law_grown : Fun K "_law_grown" "_law_grown" (topS 47) (fa 39) (fd 39)
  k__law_grown : PySem.W.keepIn K (.ref (fa 39)) = true
  b__law_grown : Binds K (fd 39) ["row", "most"] []
  g__law_is_piece : mg "_law_is_piece" = some (.ref (fa 40))
  F__law_is_piece : Fun K "_law_is_piece" "_law_is_piece" (topS 48) (fa 40) (fd 40)
  k__law_is_piece : PySem.W.keepIn K (.ref (fa 40)) = true
  b__law_is_piece : Binds K (fd 40) ["value"] []
  g__cells_beside : mg "_cells_beside" = some (.ref (fa 18))
  F__cells_beside : Fun K "_cells_beside" "_cells_beside" (topS 25) (fa 18) (fd 18)
  k__cells_beside : PySem.W.keepIn K (.ref (fa 18)) = true
  b__cells_beside : Binds K (fd 18) ["cell"] []
  g__hangs_together : mg "_hangs_together" = some (.ref (fa 19))
  F__hangs_together : Fun K "_hangs_together" "_hangs_together" (topS 26) (fa 19) (fd 19)
  k__hangs_together : PySem.W.keepIn K (.ref (fa 19)) = true
  b__hangs_together : Binds K (fd 19) ["cells"] []
  g_is_an_integer : mg "is_an_integer" = some (.ref (fa 6))
  F_is_an_integer : Fun K "is_an_integer" "is_an_integer" (topS 11) (fa 6) (fd 6)
  k_is_an_integer : PySem.W.keepIn K (.ref (fa 6)) = true
  b_is_an_integer : Binds K (fd 6) ["value"] []
  g__is_pair_of_integers : mg "_is_pair_of_integers" = some (.ref (fa 9))
  F__is_pair_of_integers : Fun K "_is_pair_of_integers" "_is_pair_of_integers" (topS 14) (fa 9) (fd 9)
  k__is_pair_of_integers : PySem.W.keepIn K (.ref (fa 9)) = true
  b__is_pair_of_integers : Binds K (fd 9) ["value"] []
  g_is_cell : mg "is_cell" = some (.ref (fa 8))
  F_is_cell : Fun K "is_cell" "is_cell" (topS 13) (fa 8) (fd 8)
  k_is_cell : PySem.W.keepIn K (.ref (fa 8)) = true
  b_is_cell : Binds K (fd 8) ["value"] []
  g_moved_home : mg "moved_home" = some (.ref (fa 2))
  F_moved_home : Fun K "moved_home" "moved_home" (topS 6) (fa 2) (fd 2)
  k_moved_home : PySem.W.keepIn K (.ref (fa 2)) = true
  b_moved_home : Binds K (fd 2) ["cells"] []
  g_set_home : mg "set_home" = some (.ref (fa 3))
  F_set_home : Fun K "set_home" "set_home" (topS 7) (fa 3) (fd 3)
  k_set_home : PySem.W.keepIn K (.ref (fa 3)) = true
  b_set_home : Binds K (fd 3) ["cells"] []
  g_is_piece : mg "is_piece" = some (.ref (fa 10))
  F_is_piece : Fun K "is_piece" "is_piece" (topS 17) (fa 10) (fd 10)
  k_is_piece : PySem.W.keepIn K (.ref (fa 10)) = true
  b_is_piece : Binds K (fd 10) ["value"] []
  g__check_piece : mg "_check_piece" = some (.ref (fa 17))
  F__check_piece : Fun K "_check_piece" "_check_piece" (topS 24) (fa 17) (fd 17)
  k__check_piece : PySem.W.keepIn K (.ref (fa 17)) = true
  b__check_piece : Binds K (fd 17) ["value"] []
  g_turned_cells : mg "turned_cells" = some (.ref (fa 0))
  F_turned_cells : Fun K "turned_cells" "turned_cells" (topS 4) (fa 0) (fd 0)
  k_turned_cells : PySem.W.keepIn K (.ref (fa 0)) = true
  b_turned_cells : Binds K (fd 0) ["cells"] []
  g_turned : mg "turned" = some (.ref (fa 11))
  F_turned : Fun K "turned" "turned" (topS 18) (fa 11) (fd 11)
  k_turned : PySem.W.keepIn K (.ref (fa 11)) = true
  b_turned : Binds K (fd 11) ["piece"] []
  g_flipped_cells : mg "flipped_cells" = some (.ref (fa 1))
  F_flipped_cells : Fun K "flipped_cells" "flipped_cells" (topS 5) (fa 1) (fd 1)
  k_flipped_cells : PySem.W.keepIn K (.ref (fa 1)) = true
  b_flipped_cells : Binds K (fd 1) ["cells"] []
  g_flipped : mg "flipped" = some (.ref (fa 12))
  F_flipped : Fun K "flipped" "flipped" (topS 19) (fa 12) (fd 12)
  k_flipped : PySem.W.keepIn K (.ref (fa 12)) = true
  b_flipped : Binds K (fd 12) ["piece"] []
  g__four_turnings : mg "_four_turnings" = some (.ref (fa 5))
  F__four_turnings : Fun K "_four_turnings" "_four_turnings" (topS 9) (fa 5) (fd 5)
  k__four_turnings : PySem.W.keepIn K (.ref (fa 5)) = true
  b__four_turnings : Binds K (fd 5) ["cells"] []
  g_all_turnings : mg "all_turnings" = some (.ref (fa 4))
  F_all_turnings : Fun K "all_turnings" "all_turnings" (topS 8) (fa 4) (fd 4)
  k_all_turnings : PySem.W.keepIn K (.ref (fa 4)) = true
  b_all_turnings : Binds K (fd 4) ["cells", "is_flipped"] []
  g_forms : mg "forms" = some (.ref (fa 13))
  F_forms : Fun K "forms" "forms" (topS 20) (fa 13) (fd 13)
  k_forms : PySem.W.keepIn K (.ref (fa 13)) = true
  b_forms : Binds K (fd 13) ["piece", "is_flipped"] []
  g_least_form : mg "least_form" = some (.ref (fa 14))
  F_least_form : Fun K "least_form" "least_form" (topS 21) (fa 14) (fd 14)
  k_least_form : PySem.W.keepIn K (.ref (fa 14)) = true
  b_least_form : Binds K (fd 14) ["piece"] []
  g__one_cell_more : mg "_one_cell_more" = some (.ref (fa 20))
  F__one_cell_more : Fun K "_one_cell_more" "_one_cell_more" (topS 27) (fa 20) (fd 20)
  k__one_cell_more : PySem.W.keepIn K (.ref (fa 20)) = true
  b__one_cell_more : Binds K (fd 20) ["pieces"] []
  g_is_between : mg "is_between" = some (.ref (fa 7))
  F_is_between : Fun K "is_between" "is_between" (topS 12) (fa 7) (fd 7)
  k_is_between : PySem.W.keepIn K (.ref (fa 7)) = true
  b_is_between : Binds K (fd 7) ["value", "least", "most"] []
  g_pieces_of : mg "pieces_of" = some (.ref (fa 15))
  F_pieces_of : Fun K "pieces_of" "pieces_of" (topS 22) (fa 15) (fd 15)
  k_pieces_of : PySem.W.keepIn K (.ref (fa 15)) = true
  b_pieces_of : Binds K (fd 15) ["many"] []
  g__drawn_row : mg "_drawn_row" = some (.ref (fa 21))
  F__drawn_row : Fun K "_drawn_row" "_drawn_row" (topS 28) (fa 21) (fd 21)
  k__drawn_row : PySem.W.keepIn K (.ref (fa 21)) = true
  b__drawn_row : Binds K (fd 21) ["piece", "row", "wide"] []
  g_drawn : mg "drawn" = some (.ref (fa 16))
  F_drawn : Fun K "drawn" "drawn" (topS 23) (fa 16) (fd 16)
  k_drawn : PySem.W.keepIn K (.ref (fa 16)) = true
  b_drawn : Binds K (fd 16) ["piece"] []
  g__law_refused : mg "_law_refused" = some (.ref (fa 42))
  F__law_refused : Fun K "_law_refused" "_law_refused" (topS 50) (fa 42) (fd 42)
  k__law_refused : PySem.W.keepIn K (.ref (fa 42)) = true
  b__law_refused : Binds K (fd 42) ["ask", "value"] []
  g_law : mg "law" = some (.ref (fa 43))
  F_law : Fun K "law" "law" (topS 51) (fa 43) (fd 43)
  k_law : PySem.W.keepIn K (.ref (fa 43)) = true
  b_law : Binds K (fd 43) ["script"] []
  n_abs : mg "abs" = none
  n_all : mg "all" = none
  n_bool : mg "bool" = none
  n_int : mg "int" = none
  n_isinstance : mg "isinstance" = none
  n_len : mg "len" = none
  n_list : mg "list" = none
  n_max : mg "max" = none
  n_min : mg "min" = none
  n_range : mg "range" = none
  n_set : mg "set" = none
  n_sorted : mg "sorted" = none
  n_str : mg "str" = none
  n_tuple : mg "tuple" = none
  c_MOST_CELLS : ∃ t, mg "MOST_CELLS" = some (.int 5 t)
  g_BadPiece : mg "BadPiece" = some (.ref (fa 45))
  x_BadPiece : PySem.W.excIn K (fa 45) [.type "ValueError", .type "Exception", .type "BaseException", .type "object"] "ValueError.__new__" = true
  k_BadPiece : PySem.W.keepIn K (.ref (fa 45)) = true
  s_BadPiece : PySem.W.subIn K (.ref (fa 45)) (.type "BaseException") = some true
  t_BadPiece : PySem.W.typeIn K (.ref (fa 45)) = some (.type "type")
  e_BadPiece : PySem.W.exmOne K (.ref (fa 45)) (.ref (fa 45)) = some true
def ex_BadPiece : Nat → Option Bool := fun i => if i = 45 then some true else none
theorem he_BadPiece (Z : Facts K mg fa.f fd) : ∀ i b, ex_BadPiece i = some b → PySem.W.exmOne K (.ref (fa i)) (.ref (fa 45)) = some b := fun i b h => by
  unfold ex_BadPiece at h
  by_cases e : i = 45
  · subst e
    rw [if_pos rfl] at h
    cases h
    exact Z.e_BadPiece
  · rw [if_neg e] at h
    cases h
abbrev st__law_alike : Stmt := topS 32
abbrev N__law_alike : List Str := ["found", "due", "k"]
theorem sc__law_alike : FnScope N__law_alike ["found", "due"] (defScope st__law_alike) := ⟨rfl, rfl, rfl, by decide +kernel, rfl, by decide +kernel, by decide +kernel⟩
def body__law_alike (F : Fn) : SD := (sSeq (sIf (dTruth (dCall gIsi (dCons (dVar 1) (dCons (dTup (dCons (dC (.ty .tuple)) (dCons (dC (.ty .list)) dNil))) dNil)))) (sSeq (sIf (dOrT (dNotT (dTruth (dCall gIsi (dCons (dVar 0) (dCons (dTup (dCons (dC (.ty .tuple)) (dCons (dC (.ty .list)) dNil))) dNil))))) (dBool (dOp (gEq true) (dCall gIsi (dCons (dVar 0) (dCons (dC (.ty .list)) dNil))) (dCall gIsi (dCons (dVar 1) (dCons (dC (.ty .list)) dNil)))))) (sRet (dC (.bl false))) sNil) (sSeq (sIf (dBool (dOp (gEq true) (dCall gLen (dCons (dVar 0) dNil)) (dCall gLen (dCons (dVar 1) dNil)))) (sRet (dC (.bl false))) sNil) (sRet (dOp (gEq false) (dLc false (dR1 (dCons (dCall gLen (dCons (dVar 1) dNil)) dNil)) (tgN 2) (dNotT (dTruth (dFnP F (dCons (dOp gIx (dVar 0) (dVar 2)) (dCons (dOp gIx (dVar 1) (dVar 2)) dNil))))) (dVar 2) [2]) (dLst false dNil))))) sNil) (sSeq (sIf (dOrT (dBool (dOp (gIs false) (dVar 1) (dC .non))) (dTruth (dCall gIsi (dCons (dVar 1) (dCons (dC (.ty .str)) dNil))))) (sRet (dAndV (dOp (gEq false) (dVar 0) (dVar 1)) (dOp (gEq false) (dCall gIsi (dCons (dVar 0) (dCons (dC (.ty .str)) dNil))) (dCall gIsi (dCons (dVar 1) (dCons (dC (.ty .str)) dNil)))))) sNil) (sRet (dAndV (dCall gIsi (dCons (dVar 0) (dCons (dC (.ty .int)) dNil))) (dAndV (dOp (gEq false) (dCall gIsi (dCons (dVar 0) (dCons (dC (.ty .bool)) dNil))) (dCall gIsi (dCons (dVar 1) (dCons (dC (.ty .bool)) dNil)))) (dOp (gEq false) (dVar 0) (dVar 1)))))))
def F__law_alike : Nat → Fn
  | 0 => fun _ _ => .bad
  | n + 1 => runDef 3 (body__law_alike (F__law_alike n))
theorem ok__law_alike (Z : Facts K mg fa.f fd) (hw : fa.w = w) : ∀ n, FnOk P w K mg base (L2.CX P w) (n + 1) (fa 24) (fd 24) ["found", "due"] (spD K fa 2 (F__law_alike n))
  | 0 => fn_bad (by rfl)
  | n + 1 => def_ok (N := N__law_alike) Z.F__law_alike sc__law_alike rfl fun cdv A outer s H E hr => by
    have G := ok__law_alike Z hw n
    have tk : Takes (cxOf (L2.CX P w) P w K mg base N__law_alike "_law_alike" (defScope st__law_alike) (fa 24) cdv A outer s H E) (wDef E) := takes_of rfl rfl rfl rfl
    have po := passes_of (X := (cxOf (L2.CX P w) P w K mg base N__law_alike "_law_alike" (defScope st__law_alike) (fa 24) cdv A outer s H E)) rfl
    have hr0 : Room 1 _ := hr.mono (by omega)
    exact (dss_cons (ds_if (dt_truth (de_callB call_isiA isiD (by rfl) Z.n_isinstance (by decide +kernel) (da_cons (de_var (pv 1)) (da_cons (de_tup (da_cons (de_ty (t := .tuple) (by rfl) Z.n_tuple (by decide +kernel)) (da_cons (de_ty (t := .list) (by rfl) Z.n_list (by decide +kernel)) da_nil))) da_nil))) (fun _ => rfl)) (dss_cons (ds_if (dt_of (dw_or (dt_not (dt_truth (de_callB call_isiA isiD (by rfl) Z.n_isinstance (by decide +kernel) (da_cons (de_var (pv 0)) (da_cons (de_tup (da_cons (de_ty (t := .tuple) (by rfl) Z.n_tuple (by decide +kernel)) (da_cons (de_ty (t := .list) (by rfl) Z.n_list (by decide +kernel)) da_nil))) da_nil))) (fun _ => rfl))) (dw_or1 (dt_cmp (op_neD hr.units) neD (de_callB call_isiA isiD (by rfl) Z.n_isinstance (by decide +kernel) (da_cons (de_var (pv 0)) (da_cons (de_ty (t := .list) (by rfl) Z.n_list (by decide +kernel)) da_nil))) (de_callB call_isiA isiD (by rfl) Z.n_isinstance (by decide +kernel) (da_cons (de_var (pv 1)) (da_cons (de_ty (t := .list) (by rfl) Z.n_list (by decide +kernel)) da_nil))) (nomark _))))) (dss_one (ds_ret de_bl)) dss_nil)
    (dss_cons (ds_if (dt_cmp (op_neD hr.units) neD (de_callB call_len lenD (by rfl) Z.n_len (by decide +kernel) (da_cons (de_var (pv 0)) da_nil)) (de_callB call_len lenD (by rfl) Z.n_len (by decide +kernel) (da_cons (de_var (pv 1)) da_nil)) (nomark _)) (dss_one (ds_ret de_bl)) dss_nil)
    (dss_one (ds_ret (de_cmp (op_eqD hr.units) eqD (de_lc (own := [("k", 2)]) (ns := [2]) false rfl sc__law_alike.nd (di_r1 (by rfl) Z.n_range (da_cons (de_callB call_len lenD (by rfl) Z.n_len (by decide +kernel) (da_cons (de_var (pv 1)) da_nil)) da_nil)) (blkOk_by (N := N__law_alike) (sc := defScope st__law_alike) (by decide +kernel)) (by decide) (fun _ _ _ _ _ => (dg_name (i := 2) (pg_name (i := 2) sc__law_alike.nd rfl (by first | exact Or.inl rfl | exact Or.inr rfl)))) (fun _ _ _ _ _ => (dts_one (dt_not (dt_truth (de_fnP G (hr.mono (Nat.le_refl _)) (by rfl) Z.g__law_alike Z.k__law_alike Z.b__law_alike takes00 (da_cons (de_ix (de_var (pv 0)) (de_var (pv 2)) (fun _ _ => rfl)) (da_cons (de_ix (de_var (pv 1)) (de_var (pv 2)) (fun _ _ => rfl)) da_nil)) (len_cons (len_cons len_nil))) (fun _ => rfl))))) (fun _ _ _ _ _ => (de_var (pv 2)))) (de_lst false da_nil) (nomark _)))))) dss_nil)
    (dss_cons (ds_if (dt_of (dw_or (dt_cmp (OpR.or op_isBl op_isN) isD (de_var (pv 1)) de_non (nomark _)) (dw_or1 (dt_truth (de_callB call_isiA isiD (by rfl) Z.n_isinstance (by decide +kernel) (da_cons (de_var (pv 1)) (da_cons (de_ty (t := .str) (by rfl) Z.n_str (by decide +kernel)) da_nil))) (fun _ => rfl))))) (dss_one (ds_ret (de_and (de_cmp (op_eqD hr.units) eqD (de_var (pv 0)) (de_var (pv 1)) (nomark _)) (de_b1 (de_cmp (op_eqD hr.units) eqD (de_callB call_isiA isiD (by rfl) Z.n_isinstance (by decide +kernel) (da_cons (de_var (pv 0)) (da_cons (de_ty (t := .str) (by rfl) Z.n_str (by decide +kernel)) da_nil))) (de_callB call_isiA isiD (by rfl) Z.n_isinstance (by decide +kernel) (da_cons (de_var (pv 1)) (da_cons (de_ty (t := .str) (by rfl) Z.n_str (by decide +kernel)) da_nil))) (nomark _)))))) dss_nil)
    (dss_one (ds_ret (de_and (de_callB call_isiA isiD (by rfl) Z.n_isinstance (by decide +kernel) (da_cons (de_var (pv 0)) (da_cons (de_ty (t := .int) (by rfl) Z.n_int (by decide +kernel)) da_nil))) (de_and (de_cmp (op_eqD hr.units) eqD (de_callB call_isiA isiD (by rfl) Z.n_isinstance (by decide +kernel) (da_cons (de_var (pv 0)) (da_cons (de_ty (t := .bool) (by rfl) Z.n_bool (by decide +kernel)) da_nil))) (de_callB call_isiA isiD (by rfl) Z.n_isinstance (by decide +kernel) (da_cons (de_var (pv 1)) (da_cons (de_ty (t := .bool) (by rfl) Z.n_bool (by decide +kernel)) da_nil))) (nomark _)) (de_b1 (de_cmp (op_eqD hr.units) eqD (de_var (pv 0)) (de_var (pv 1)) (nomark _)))))))))
abbrev st__law_settle : Stmt := topS 33
abbrev N__law_settle : List Str := ["cells", "low", "left", "one"]
theorem sc__law_settle : FnScope N__law_settle ["cells"] (defScope st__law_settle) := ⟨rfl, rfl, rfl, by decide +kernel, rfl, by decide +kernel, by decide +kernel⟩
def body__law_settle : SD := (sSeq (sTups 2 (tgCons (tgN 1) (tgCons (tgN 2) tgNil)) (dCons (dCall (gInt2 (fun i j => if j < i then j else i) (gInts true minI)) (dCons (dLc false (dSeq (dVar 0)) (tgN 3) dYes (dOp gIx (dVar 3) (dC (.int 0))) [3]) dNil)) (dCons (dCall (gInt2 (fun i j => if j < i then j else i) (gInts true minI)) (dCons (dLc false (dSeq (dVar 0)) (tgN 3) dYes (dOp gIx (dVar 3) (dC (.int 1))) [3]) dNil)) dNil))) (sRet (dCall gTuple (dCons (dCall (gSortB false) (dCons (dLc false (dSeq (dVar 0)) (tgN 3) dYes (dTup (dCons (dOp gSub (dOp gIx (dVar 3) (dC (.int 0))) (dVar 1)) (dCons (dOp gSub (dOp gIx (dVar 3) (dC (.int 1))) (dVar 2)) dNil))) [3]) dNil)) dNil))))
def F__law_settle : Fn := runDef 4 body__law_settle
theorem ok__law_settle (Z : Facts K mg fa.f fd) (hw : fa.w = w) : FnOk P w K mg base (L2.CX P w) 1 (fa 25) (fd 25) ["cells"] (spD K fa 1 F__law_settle) :=
  def_ok (k := 0) (N := N__law_settle) Z.F__law_settle sc__law_settle rfl fun cdv A outer s H E hr => by
    have tk : Takes (cxOf (L2.CX P w) P w K mg base N__law_settle "_law_settle" (defScope st__law_settle) (fa 25) cdv A outer s H E) (wDef E) := takes_of rfl rfl rfl rfl
    have po := passes_of (X := (cxOf (L2.CX P w) P w K mg base N__law_settle "_law_settle" (defScope st__law_settle) (fa 25) cdv A outer s H E)) rfl
    exact (dss_cons (ds_tups rfl (da_cons (de_callB (CallR.or (call_min2 rfl) (cr_min rfl)) (int2D minLD) (by rfl) Z.n_min (by decide +kernel) (da_cons (de_lc (own := [("one", 3)]) (ns := [3]) false rfl sc__law_settle.nd (di_seq (de_var (pv 0))) (blkOk_by (N := N__law_settle) (sc := defScope st__law_settle) (by decide +kernel)) (by decide) (fun _ _ _ _ _ => (dg_name (i := 3) (pg_name (i := 3) sc__law_settle.nd rfl (by first | exact Or.inl rfl | exact Or.inr rfl)))) (fun _ _ _ _ _ => dts_nil) (fun _ _ _ _ _ => (de_ix (de_var (pv 3)) de_int (fun _ _ => rfl)))) da_nil)) (da_cons (de_callB (CallR.or (call_min2 rfl) (cr_min rfl)) (int2D minLD) (by rfl) Z.n_min (by decide +kernel) (da_cons (de_lc (own := [("one", 3)]) (ns := [3]) false rfl sc__law_settle.nd (di_seq (de_var (pv 0))) (blkOk_by (N := N__law_settle) (sc := defScope st__law_settle) (by decide +kernel)) (by decide) (fun _ _ _ _ _ => (dg_name (i := 3) (pg_name (i := 3) sc__law_settle.nd rfl (by first | exact Or.inl rfl | exact Or.inr rfl)))) (fun _ _ _ _ _ => dts_nil) (fun _ _ _ _ _ => (de_ix (de_var (pv 3)) de_int (fun _ _ => rfl)))) da_nil)) da_nil)) (dgs_cons (dg_name (i := 1) (pg_name (i := 1) sc__law_settle.nd rfl (Or.inr rfl))) (dgs_cons (dg_name (i := 2) (pg_name (i := 2) sc__law_settle.nd rfl (Or.inr rfl))) dgs_nil)))
    (dss_one (ds_ret (de_callT call_tuple_of tupleD (by rfl) Z.n_tuple (by decide +kernel) (da_cons (de_callB (call_sortB hw rfl (hu66 hr)) (sortBD false) (by rfl) Z.n_sorted (by decide +kernel) (da_cons (de_lc (own := [("one", 3)]) (ns := [3]) false rfl sc__law_settle.nd (di_seq (de_var (pv 0))) (blkOk_by (N := N__law_settle) (sc := defScope st__law_settle) (by decide +kernel)) (by decide) (fun _ _ _ _ _ => (dg_name (i := 3) (pg_name (i := 3) sc__law_settle.nd rfl (by first | exact Or.inl rfl | exact Or.inr rfl)))) (fun _ _ _ _ _ => dts_nil) (fun _ _ _ _ _ => (de_tup (da_cons (de_op op_sub subD (de_ix (de_var (pv 3)) de_int (fun _ _ => rfl)) (de_var (pv 1))) (da_cons (de_op op_sub subD (de_ix (de_var (pv 3)) de_int (fun _ _ => rfl)) (de_var (pv 2))) da_nil))))) da_nil)) da_nil)))))
abbrev st__law_forms : Stmt := topS 34
abbrev N__law_forms : List Str := ["piece", "is_flipped", "found", "k", "some", "turn", "one"]
theorem sc__law_forms : FnScope N__law_forms ["piece", "is_flipped"] (defScope st__law_forms) := ⟨rfl, rfl, rfl, by decide +kernel, rfl, by decide +kernel, by decide +kernel⟩
def body__law_forms : SD := (sSeq (sSet 2 (dLst true dNil)) (sSeq (sFor (dR1 (dCons (dIf (dTruth (dVar 1)) (dC (.int 8)) (dC (.int 4))) dNil)) (tgN 3) (sSeq (sSet 4 (dLc false (dSeq (dVar 0)) (tgN 6) dYes (dIf (dBool (dOp gGt (dVar 3) (dC (.int 3)))) (dTup (dCons (dOp gIx (dVar 6) (dC (.int 0))) (dCons (dOp gSub (dC (.int 0)) (dOp gIx (dVar 6) (dC (.int 1)))) dNil))) (dVar 6)) [6])) (sSeq (sFor (dR1 (dCons (dOp gMod (dCall gInt (dCons (dVar 3) dNil)) (dC (.int 4))) dNil)) (tgN 5) (sSet 4 (dLc false (dSeq (dVar 4)) (tgN 6) dYes (dTup (dCons (dOp gIx (dVar 6) (dC (.int 1))) (dCons (dOp gSub (dC (.int 0)) (dOp gIx (dVar 6) (dC (.int 0)))) dNil))) [6]))) (sExpr (dMeth "list" gAppend (dVar 2) (dCons (dFnP F__law_settle (dCons (dVar 4) dNil)) dNil)))))) (sRet (dCall (gSortB false) (dCons (dCall gSetOf (dCons (dVar 2) dNil)) dNil)))))
def F__law_forms : Fn := runDef 7 body__law_forms
theorem ok__law_forms (Z : Facts K mg fa.f fd) (hw : fa.w = w) : FnOk P w K mg base (L2.CX P w) 2 (fa 26) (fd 26) ["piece", "is_flipped"] (spD K fa 2 F__law_forms) :=
  def_ok (k := 1) (N := N__law_forms) Z.F__law_forms sc__law_forms rfl fun cdv A outer s H E hr => by
    have tk : Takes (cxOf (L2.CX P w) P w K mg base N__law_forms "_law_forms" (defScope st__law_forms) (fa 26) cdv A outer s H E) (wDef E) := takes_of rfl rfl rfl rfl
    have po := passes_of (X := (cxOf (L2.CX P w) P w K mg base N__law_forms "_law_forms" (defScope st__law_forms) (fa 26) cdv A outer s H E)) rfl
    exact (dss_cons (ds_set (i := 2) sc__law_forms.nd rfl (Or.inl rfl) (de_lst true da_nil))
    (dss_cons (ds_for po rfl (di_r1 (by rfl) Z.n_range (da_cons (de_if (dt_truth (de_var (pv 1)) (fun _ => rfl)) de_int de_int) da_nil)) (dg_name (i := 3) (pg_name (i := 3) sc__law_forms.nd rfl (Or.inr rfl))) (dss_cons (ds_setLc false (i := 4) (own := [("one", 6)]) (ns := [6]) rfl sc__law_forms.nd rfl rfl (sw_true rfl rfl rfl (by decide +kernel)) (di_seq (de_var (pv 0))) (blkOk_by (N := N__law_forms) (sc := defScope st__law_forms) (by decide +kernel)) (by decide) (fun _ _ _ _ _ => (dg_name (i := 6) (pg_name (i := 6) sc__law_forms.nd rfl (by first | exact Or.inl rfl | exact Or.inr rfl)))) (fun _ _ _ _ _ => dts_nil) (fun _ _ _ _ _ => (de_if (dt_cmp op_gt gtD (de_var (pv 3)) de_int (nomark _)) (de_tup (da_cons (de_ix (de_var (pv 6)) de_int (fun _ _ => rfl)) (da_cons (de_op op_sub subD de_int (de_ix (de_var (pv 6)) de_int (fun _ _ => rfl))) da_nil))) (de_var (pv 6)))))
    (dss_cons (ds_for po rfl (di_r1 (by rfl) Z.n_range (da_cons (de_op op_modN modD (de_callT call_int1 intD (by rfl) Z.n_int (by decide +kernel) (da_cons (de_var (pv 3)) da_nil)) de_int) da_nil)) (dg_name (i := 5) (pg_name (i := 5) sc__law_forms.nd rfl (Or.inl rfl))) (dss_one (ds_setLc false (i := 4) (own := [("one", 6)]) (ns := [6]) rfl sc__law_forms.nd rfl rfl (sw_true rfl rfl rfl (by decide +kernel)) (di_seq (de_var (pv 4))) (blkOk_by (N := N__law_forms) (sc := defScope st__law_forms) (by decide +kernel)) (by decide) (fun _ _ _ _ _ => (dg_name (i := 6) (pg_name (i := 6) sc__law_forms.nd rfl (by first | exact Or.inl rfl | exact Or.inr rfl)))) (fun _ _ _ _ _ => dts_nil) (fun _ _ _ _ _ => (de_tup (da_cons (de_ix (de_var (pv 6)) de_int (fun _ _ => rfl)) (da_cons (de_op op_sub subD de_int (de_ix (de_var (pv 6)) de_int (fun _ _ => rfl))) da_nil)))))))
    (dss_one (ds_expr (de_meth PySem.F.plainAttrs_list PySem.F.slot_list_append PySem.F.type_list_append mt_append appendD (de_var (pv 2)) (da_cons (de_fnP (ok__law_settle Z hw) (hr.mono (by decide)) (by rfl) Z.g__law_settle Z.k__law_settle Z.b__law_settle tk (da_cons (de_var (pv 4)) da_nil) (len_cons len_nil)) da_nil)))))))
    (dss_one (ds_ret (de_callB (call_sortB hw rfl (hu66 hr)) (sortBD false) (by rfl) Z.n_sorted (by decide +kernel) (da_cons (de_callT (call_setA hw rfl (hu66 hr)) setD (by rfl) Z.n_set (by decide +kernel) (da_cons (de_var (pv 2)) da_nil)) da_nil))))))
abbrev st__law_all_pieces : Stmt := topS 49
abbrev N__law_all_pieces : List Str := ["many", "found", "turn", "more", "piece", "one", "cell"]
theorem sc__law_all_pieces : FnScope N__law_all_pieces ["many"] (defScope st__law_all_pieces) := ⟨rfl, rfl, rfl, by decide +kernel, rfl, by decide +kernel, by decide +kernel⟩
def body__law_all_pieces : SD := (sSeq (sSet 1 (dLst false (dCons (dTup (dCons (dTup (dCons (dC (.int 0)) (dCons (dC (.int 0)) dNil))) dNil)) dNil))) (sSeq (sFor (dR1 (dCons (dOp gSub (dVar 0) (dC (.int 1))) dNil)) (tgN 2) (sSeq (sSet 3 (dLst true dNil)) (sSeq (sFor (dSeq (dVar 1)) (tgN 4) (sFor (dSeq (dVar 4)) (tgN 5) (sFor (dSeq (dLst false (dCons (dTup (dCons (dOp gSub (dOp gIx (dVar 5) (dC (.int 0))) (dC (.int 1))) (dCons (dOp gIx (dVar 5) (dC (.int 1))) dNil))) (dCons (dTup (dCons (dOp gIx (dVar 5) (dC (.int 0))) (dCons (dOp gSub (dOp gIx (dVar 5) (dC (.int 1))) (dC (.int 1))) dNil))) (dCons (dTup (dCons (dOp gIx (dVar 5) (dC (.int 0))) (dCons (dOp (gAdd false) (dOp gIx (dVar 5) (dC (.int 1))) (dC (.int 1))) dNil))) (dCons (dTup (dCons (dOp (gAdd false) (dOp gIx (dVar 5) (dC (.int 0))) (dC (.int 1))) (dCons (dOp gIx (dVar 5) (dC (.int 1))) dNil))) dNil)))))) (tgN 6) (sIf (dBool (dOp (gIn true) (dVar 6) (dVar 4))) (sExpr (dMeth "list" gAppend (dVar 3) (dCons (dOp gIx (dFnP F__law_forms (dCons (dFnP F__law_settle (dCons (dOp (gAdd false) (dVar 4) (dTup (dCons (dVar 6) dNil))) dNil)) (dCons (dC (.bl true)) dNil))) (dC (.int 0))) dNil))) sNil)))) (sSet 1 (dCall (gSortB false) (dCons (dCall gSetOf (dCons (dVar 3) dNil)) dNil)))))) (sRet (dVar 1))))
def F__law_all_pieces : Fn := runDef 7 body__law_all_pieces
theorem ok__law_all_pieces (Z : Facts K mg fa.f fd) (hw : fa.w = w) : FnOk P w K mg base (L2.CX P w) 3 (fa 41) (fd 41) ["many"] (spD K fa 1 F__law_all_pieces) :=
  def_ok (k := 2) (N := N__law_all_pieces) Z.F__law_all_pieces sc__law_all_pieces rfl fun cdv A outer s H E hr => by
    have tk : Takes (cxOf (L2.CX P w) P w K mg base N__law_all_pieces "_law_all_pieces" (defScope st__law_all_pieces) (fa 41) cdv A outer s H E) (wDef E) := takes_of rfl rfl rfl rfl
    have po := passes_of (X := (cxOf (L2.CX P w) P w K mg base N__law_all_pieces "_law_all_pieces" (defScope st__law_all_pieces) (fa 41) cdv A outer s H E)) rfl
    exact (dss_cons (ds_set (i := 1) sc__law_all_pieces.nd rfl (Or.inl rfl) (de_lst false (da_cons (de_tup (da_cons (de_tup (da_cons de_int (da_cons de_int da_nil))) da_nil)) da_nil)))
    (dss_cons (ds_for po rfl (di_r1 (by rfl) Z.n_range (da_cons (de_op op_sub subD (de_var (pv 0)) de_int) da_nil)) (dg_name (i := 2) (pg_name (i := 2) sc__law_all_pieces.nd rfl (Or.inl rfl))) (dss_cons (ds_set (i := 3) sc__law_all_pieces.nd rfl (Or.inl rfl) (de_lst true da_nil))
    (dss_cons (ds_for po rfl (di_seq (de_var (pv 1))) (dg_name (i := 4) (pg_name (i := 4) sc__law_all_pieces.nd rfl (Or.inl rfl))) (dss_one (ds_for po rfl (di_seq (de_var (pv 4))) (dg_name (i := 5) (pg_name (i := 5) sc__law_all_pieces.nd rfl (Or.inl rfl))) (dss_one (ds_for po rfl (di_seq (de_lst false (da_cons (de_tup (da_cons (de_op op_sub subD (de_ix (de_var (pv 5)) de_int (fun _ _ => rfl)) de_int) (da_cons (de_ix (de_var (pv 5)) de_int (fun _ _ => rfl)) da_nil))) (da_cons (de_tup (da_cons (de_ix (de_var (pv 5)) de_int (fun _ _ => rfl)) (da_cons (de_op op_sub subD (de_ix (de_var (pv 5)) de_int (fun _ _ => rfl)) de_int) da_nil))) (da_cons (de_tup (da_cons (de_ix (de_var (pv 5)) de_int (fun _ _ => rfl)) (da_cons (de_op op_addA (addD false) (de_ix (de_var (pv 5)) de_int (fun _ _ => rfl)) de_int) da_nil))) (da_cons (de_tup (da_cons (de_op op_addA (addD false) (de_ix (de_var (pv 5)) de_int (fun _ _ => rfl)) de_int) (da_cons (de_ix (de_var (pv 5)) de_int (fun _ _ => rfl)) da_nil))) da_nil)))))) (dg_name (i := 6) (pg_name (i := 6) sc__law_all_pieces.nd rfl (Or.inl rfl))) (dss_one (ds_if (dt_cmp (op_notInA (hu65 hr)) (inD true) (de_var (pv 6)) (de_var (pv 4)) (by rfl)) (dss_one (ds_expr (de_meth PySem.F.plainAttrs_list PySem.F.slot_list_append PySem.F.type_list_append mt_append appendD (de_var (pv 3)) (da_cons (de_ix (de_fnP (ok__law_forms Z hw) (hr.mono (by decide)) (by rfl) Z.g__law_forms Z.k__law_forms Z.b__law_forms tk (da_cons (de_fnP (ok__law_settle Z hw) (hr.mono (by decide)) (by rfl) Z.g__law_settle Z.k__law_settle Z.b__law_settle tk (da_cons (de_op op_addA (addD false) (de_var (pv 4)) (de_tup (da_cons (de_var (pv 6)) da_nil))) da_nil) (len_cons len_nil)) (da_cons de_bl da_nil)) (len_cons (len_cons len_nil))) de_int (fun _ _ => rfl)) da_nil)))) dss_nil)))))))
    (dss_one (ds_set (i := 1) sc__law_all_pieces.nd rfl (Or.inl rfl) (de_callB (call_sortB hw rfl (hu66 hr)) (sortBD false) (by rfl) Z.n_sorted (by decide +kernel) (da_cons (de_callT (call_setA hw rfl (hu66 hr)) setD (by rfl) Z.n_set (by decide +kernel) (da_cons (de_var (pv 3)) da_nil)) da_nil)))))))
    (dss_one (ds_ret (de_var (pv 1))))))
abbrev st__law_taken : Stmt := topS 30
abbrev N__law_taken : List Str := ["row", "many", "found", "cell"]
theorem sc__law_taken : FnScope N__law_taken ["row", "many"] (defScope st__law_taken) := ⟨rfl, rfl, rfl, by decide +kernel, rfl, by decide +kernel, by decide +kernel⟩
def body__law_taken : SD := (sSeq (sIf (dBool (dOp gGt (dOp gIx (dVar 0) (dC (.int 3))) (dC (.int 0)))) (sSeq (sSet 2 (dOp gMod (dCall gInt (dCons (dOp gIx (dVar 0) (dC (.int 3))) dNil)) (dVar 1))) (sSeq (sSub (dVar 0) (dC (.int 3)) (dOp gDiv (dOp gIx (dVar 0) (dC (.int 3))) (dVar 1))) (sRet (dVar 2)))) sNil) (sSeq (sSub (dVar 0) (dC (.int 1)) (dOp (gAdd false) (dOp gIx (dVar 0) (dC (.int 1))) (dC (.int 1)))) (sSeq (sIf (dBool (dOp gGt (dOp gIx (dVar 0) (dC (.int 1))) (dCall gLen (dCons (dOp gIx (dVar 0) (dC (.int 0))) dNil)))) (sSeq (sSub (dVar 0) (dC (.int 2)) (dOp gMod (dCall gInt (dCons (dOp (gAdd false) (dOp gMul (dOp gIx (dVar 0) (dC (.int 2))) (dC (.int 48271))) (dC (.int 11))) dNil)) (dC (.int 2147483647)))) (sRet (dOp gMod (dCall gInt (dCons (dOp gDiv (dOp gIx (dVar 0) (dC (.int 2))) (dC (.int 7))) dNil)) (dVar 1)))) sNil) (sSeq (sSet 3 (dOp gIx (dOp gIx (dVar 0) (dC (.int 0))) (dOp gSub (dOp gIx (dVar 0) (dC (.int 1))) (dC (.int 1))))) (sSeq (sSub (dVar 0) (dC (.int 2)) (dOp gMod (dCall gInt (dCons (dOp (gAdd false) (dOp (gAdd false) (dOp gMul (dOp gIx (dVar 0) (dC (.int 2))) (dC (.int 48271))) (dVar 3)) (dC (.int 11))) dNil)) (dC (.int 2147483647)))) (sSeq (sIf (dBool (dOp gGe (dVar 3) (dOp gPow (dC (.int 10)) (dC (.int 18))))) (sSub (dVar 0) (dC (.int 3)) (dOp gDiv (dVar 3) (dVar 1))) sNil) (sRet (dOp gMod (dCall gInt (dCons (dVar 3) dNil)) (dVar 1)))))))))
def F__law_taken : Fn := runDef 4 body__law_taken
theorem ok__law_taken (Z : Facts K mg fa.f fd) (hw : fa.w = w) : FnOk P w K mg base (L2.CX P w) 1 (fa 22) (fd 22) ["row", "many"] (spD K fa 2 F__law_taken) :=
  def_ok (k := 0) (N := N__law_taken) Z.F__law_taken sc__law_taken rfl fun cdv A outer s H E hr => by
    have tk : Takes (cxOf (L2.CX P w) P w K mg base N__law_taken "_law_taken" (defScope st__law_taken) (fa 22) cdv A outer s H E) (wDef E) := takes_of rfl rfl rfl rfl
    have po := passes_of (X := (cxOf (L2.CX P w) P w K mg base N__law_taken "_law_taken" (defScope st__law_taken) (fa 22) cdv A outer s H E)) rfl
    exact (dss_cons (ds_if (dt_cmp op_gt gtD (de_ix (de_var (pv 0)) de_int (fun _ _ => rfl)) de_int (nomark _)) (dss_cons (ds_set (i := 2) sc__law_taken.nd rfl (Or.inl rfl) (de_op op_modN modD (de_callT call_int1 intD (by rfl) Z.n_int (by decide +kernel) (da_cons (de_ix (de_var (pv 0)) de_int (fun _ _ => rfl)) da_nil)) (de_var (pv 1))))
    (dss_cons (ds_sub (de_op op_fdivN divD (de_ix (de_var (pv 0)) de_int (fun _ _ => rfl)) (de_var (pv 1))) (de_var (pv 0)) de_int)
    (dss_one (ds_ret (de_var (pv 2)))))) dss_nil)
    (dss_cons (ds_sub (de_op op_addA (addD false) (de_ix (de_var (pv 0)) de_int (fun _ _ => rfl)) de_int) (de_var (pv 0)) de_int)
    (dss_cons (ds_if (dt_cmp op_gt gtD (de_ix (de_var (pv 0)) de_int (fun _ _ => rfl)) (de_callB call_len lenD (by rfl) Z.n_len (by decide +kernel) (da_cons (de_ix (de_var (pv 0)) de_int (fun _ _ => rfl)) da_nil)) (nomark _)) (dss_cons (ds_sub (de_op op_modN modD (de_callT call_int1 intD (by rfl) Z.n_int (by decide +kernel) (da_cons (de_op op_addA (addD false) (de_op op_mul mulD (de_ix (de_var (pv 0)) de_int (fun _ _ => rfl)) de_int) de_int) da_nil)) de_int) (de_var (pv 0)) de_int)
    (dss_one (ds_ret (de_op op_modN modD (de_callT call_int1 intD (by rfl) Z.n_int (by decide +kernel) (da_cons (de_op op_fdivN divD (de_ix (de_var (pv 0)) de_int (fun _ _ => rfl)) de_int) da_nil)) (de_var (pv 1)))))) dss_nil)
    (dss_cons (ds_set (i := 3) sc__law_taken.nd rfl (Or.inl rfl) (de_ix (de_ix (de_var (pv 0)) de_int (fun _ _ => rfl)) (de_op op_sub subD (de_ix (de_var (pv 0)) de_int (fun _ _ => rfl)) de_int) (fun _ _ => rfl)))
    (dss_cons (ds_sub (de_op op_modN modD (de_callT call_int1 intD (by rfl) Z.n_int (by decide +kernel) (da_cons (de_op op_addA (addD false) (de_op op_addA (addD false) (de_op op_mul mulD (de_ix (de_var (pv 0)) de_int (fun _ _ => rfl)) de_int) (de_var (pv 3))) de_int) da_nil)) de_int) (de_var (pv 0)) de_int)
    (dss_cons (ds_if (dt_cmp op_ge geD (de_var (pv 3)) (de_op op_pow powD de_int de_int) (nomark _)) (dss_one (ds_sub (de_op op_fdivN divD (de_var (pv 3)) (de_var (pv 1))) (de_var (pv 0)) de_int)) dss_nil)
    (dss_one (ds_ret (de_op op_modN modD (de_callT call_int1 intD (by rfl) Z.n_int (by decide +kernel) (da_cons (de_var (pv 3)) da_nil)) (de_var (pv 1)))))))))))
abbrev st__law_pick : Stmt := topS 31
abbrev N__law_pick : List Str := ["row", "things"]
theorem sc__law_pick : FnScope N__law_pick ["row", "things"] (defScope st__law_pick) := ⟨rfl, rfl, rfl, by decide +kernel, rfl, by decide +kernel, by decide +kernel⟩
def body__law_pick : SD := (sRet (dOp gIx (dVar 1) (dFn false F__law_taken (dCons (dVar 0) (dCons (dCall gLen (dCons (dVar 1) dNil)) dNil)))))
def F__law_pick : Fn := runDef 2 body__law_pick
theorem ok__law_pick (Z : Facts K mg fa.f fd) (hw : fa.w = w) : FnOk P w K mg base (L2.CX P w) 2 (fa 23) (fd 23) ["row", "things"] (spD K fa 2 F__law_pick) :=
  def_ok (k := 1) (N := N__law_pick) Z.F__law_pick sc__law_pick rfl fun cdv A outer s H E hr => by
    have tk : Takes (cxOf (L2.CX P w) P w K mg base N__law_pick "_law_pick" (defScope st__law_pick) (fa 23) cdv A outer s H E) (wDef E) := takes_of rfl rfl rfl rfl
    have po := passes_of (X := (cxOf (L2.CX P w) P w K mg base N__law_pick "_law_pick" (defScope st__law_pick) (fa 23) cdv A outer s H E)) rfl
    exact (dss_one (ds_ret (de_ix (de_var (pv 1)) (de_fn false (ok__law_taken Z hw) (hr.mono (by decide)) (by rfl) Z.g__law_taken Z.k__law_taken Z.b__law_taken tk (da_cons (de_var (pv 0)) (da_cons (de_callB call_len lenD (by rfl) Z.n_len (by decide +kernel) (da_cons (de_var (pv 1)) da_nil)) da_nil)) (len_cons (len_cons len_nil))) (fun _ _ => rfl))))
abbrev st__law_grown : Stmt := topS 47
abbrev N__law_grown : List Str := ["row", "most", "some", "turn", "near", "one", "cell"]
theorem sc__law_grown : FnScope N__law_grown ["row", "most"] (defScope st__law_grown) := ⟨rfl, rfl, rfl, by decide +kernel, rfl, by decide +kernel, by decide +kernel⟩
def p0__law_grown : SD := (sSet 2 (dLst true (dCons (dTup (dCons (dC (.int 0)) (dCons (dC (.int 0)) dNil))) dNil)))
def p1__law_grown : SD := (sSet 4 (dLst false dNil))
def p2__law_grown : SD := (sSet 4 (dOp (gAdd false) (dVar 4) (dLc false (dSeq (dLst false (dCons (dTup (dCons (dOp gSub (dOp gIx (dVar 5) (dC (.int 0))) (dC (.int 1))) (dCons (dOp gIx (dVar 5) (dC (.int 1))) dNil))) (dCons (dTup (dCons (dOp gIx (dVar 5) (dC (.int 0))) (dCons (dOp gSub (dOp gIx (dVar 5) (dC (.int 1))) (dC (.int 1))) dNil))) (dCons (dTup (dCons (dOp gIx (dVar 5) (dC (.int 0))) (dCons (dOp (gAdd false) (dOp gIx (dVar 5) (dC (.int 1))) (dC (.int 1))) dNil))) (dCons (dTup (dCons (dOp (gAdd false) (dOp gIx (dVar 5) (dC (.int 0))) (dC (.int 1))) (dCons (dOp gIx (dVar 5) (dC (.int 1))) dNil))) dNil)))))) (tgN 6) (dBool (dOp (gIn true) (dVar 6) (dOp (gAdd false) (dVar 2) (dVar 4)))) (dVar 6) [6])))
def p3__law_grown : SD := (sFor (dSeq (dVar 2)) (tgN 5) p2__law_grown)
def p4__law_grown : SD := (sExpr (dMeth "list" gAppend (dVar 2) (dCons (dFn false F__law_pick (dCons (dVar 0) (dCons (dCall (gSortB false) (dCons (dVar 4) dNil)) dNil))) dNil)))
def p5__law_grown : SD := (sFor (dR1 (dCons (dFn false F__law_taken (dCons (dVar 0) (dCons (dVar 1) dNil))) dNil)) (tgN 3) (sSeq p1__law_grown (sSeq p3__law_grown p4__law_grown)))
def p6__law_grown : SD := (sRet (dFnP F__law_settle (dCons (dVar 2) dNil)))
def body__law_grown : SD := (sSeq p0__law_grown (sSeq p5__law_grown p6__law_grown))
def F__law_grown : Fn := runDef 7 body__law_grown
theorem ok__law_grown (Z : Facts K mg fa.f fd) (hw : fa.w = w) : FnOk P w K mg base (L2.CX P w) 3 (fa 39) (fd 39) ["row", "most"] (spD K fa 2 F__law_grown) :=
  def_ok (k := 2) (N := N__law_grown) Z.F__law_grown sc__law_grown rfl fun cdv A outer s H E hr => by
    have tk : Takes (cxOf (L2.CX P w) P w K mg base N__law_grown "_law_grown" (defScope st__law_grown) (fa 39) cdv A outer s H E) (wDef E) := takes_of rfl rfl rfl rfl
    have po := passes_of (X := (cxOf (L2.CX P w) P w K mg base N__law_grown "_law_grown" (defScope st__law_grown) (fa 39) cdv A outer s H E)) rfl
    exact (dss_cons (ds_set (i := 2) sc__law_grown.nd rfl (Or.inr rfl) (de_lst true (da_cons (de_tup (da_cons de_int (da_cons de_int da_nil))) da_nil)))
    (dss_cons (ds_for po rfl (di_r1 (by rfl) Z.n_range (da_cons (de_fn false (ok__law_taken Z hw) (hr.mono (by decide)) (by rfl) Z.g__law_taken Z.k__law_taken Z.b__law_taken tk (da_cons (de_var (pv 0)) (da_cons (de_var (pv 1)) da_nil)) (len_cons (len_cons len_nil))) da_nil)) (dg_name (i := 3) (pg_name (i := 3) sc__law_grown.nd rfl (Or.inl rfl))) (dss_cons (ds_set (i := 4) sc__law_grown.nd rfl (Or.inr rfl) (de_lst false da_nil))
    (dss_cons (ds_for po rfl (di_seq (de_var (pv 2))) (dg_name (i := 5) (pg_name (i := 5) sc__law_grown.nd rfl (Or.inl rfl))) (dss_one (ds_set (i := 4) sc__law_grown.nd rfl (Or.inr rfl) (de_op op_addA (addD false) (de_var (pv 4)) (de_lc (own := [("cell", 6)]) (ns := [6]) false rfl sc__law_grown.nd (di_seq (de_lst false (da_cons (de_tup (da_cons (de_op op_sub subD (de_ix (de_var (pv 5)) de_int (fun _ _ => rfl)) de_int) (da_cons (de_ix (de_var (pv 5)) de_int (fun _ _ => rfl)) da_nil))) (da_cons (de_tup (da_cons (de_ix (de_var (pv 5)) de_int (fun _ _ => rfl)) (da_cons (de_op op_sub subD (de_ix (de_var (pv 5)) de_int (fun _ _ => rfl)) de_int) da_nil))) (da_cons (de_tup (da_cons (de_ix (de_var (pv 5)) de_int (fun _ _ => rfl)) (da_cons (de_op op_addA (addD false) (de_ix (de_var (pv 5)) de_int (fun _ _ => rfl)) de_int) da_nil))) (da_cons (de_tup (da_cons (de_op op_addA (addD false) (de_ix (de_var (pv 5)) de_int (fun _ _ => rfl)) de_int) (da_cons (de_ix (de_var (pv 5)) de_int (fun _ _ => rfl)) da_nil))) da_nil)))))) (blkOk_by (N := N__law_grown) (sc := defScope st__law_grown) (by decide +kernel)) (by decide) (fun _ _ _ _ _ => (dg_name (i := 6) (pg_name (i := 6) sc__law_grown.nd rfl (by first | exact Or.inl rfl | exact Or.inr rfl)))) (fun _ _ _ _ _ => (dts_one (dt_cmp (op_notInA (hu65 hr)) (inD true) (de_var (pv 6)) (de_op op_addA (addD false) (de_var (pv 2)) (de_var (pv 4))) (by rfl)))) (fun _ _ _ _ _ => (de_var (pv 6))))))))
    (dss_one (ds_expr (de_meth PySem.F.plainAttrs_list PySem.F.slot_list_append PySem.F.type_list_append mt_append appendD (de_var (pv 2)) (da_cons (de_fn false (ok__law_pick Z hw) (hr.mono (by decide)) (by rfl) Z.g__law_pick Z.k__law_pick Z.b__law_pick tk (da_cons (de_var (pv 0)) (da_cons (de_callB (call_sortB hw rfl (hu66 hr)) (sortBD false) (by rfl) Z.n_sorted (by decide +kernel) (da_cons (de_var (pv 4)) da_nil)) da_nil)) (len_cons (len_cons len_nil))) da_nil)))))))
    (dss_one (ds_ret (de_fnP (ok__law_settle Z hw) (hr.mono (by decide)) (by rfl) Z.g__law_settle Z.k__law_settle Z.b__law_settle tk (da_cons (de_var (pv 2)) da_nil) (len_cons len_nil))))))
abbrev st__law_is_piece : Stmt := topS 48
abbrev N__law_is_piece : List Str := ["value", "one", "met", "last", "here", "k"]
theorem sc__law_is_piece : FnScope N__law_is_piece ["value"] (defScope st__law_is_piece) := ⟨rfl, rfl, rfl, by decide +kernel, rfl, by decide +kernel, by decide +kernel⟩
def body__law_is_piece : SD := (sSeq (sIf (dOrT (dNotT (dTruth (dCall gIsi (dCons (dVar 0) (dCons (dC (.ty .tuple)) dNil))))) (dNotT (dBool (dChain gLe gLe (dC (.int 1)) (dCall gLen (dCons (dVar 0) dNil)) (dC (.int 5)))))) (sRet (dC (.bl false))) sNil) (sSeq (sFor (dSeq (dVar 0)) (tgN 1) (sIf (dOrT (dNotT (dTruth (dCall gIsi (dCons (dVar 1) (dCons (dC (.ty .tuple)) dNil))))) (dOrT (dBool (dOp (gEq true) (dCall gLen (dCons (dVar 1) dNil)) (dC (.int 2)))) (dBool (dOp (gEq true) (dLc false (dSeq (dVar 1)) (tgN 5) (dOrT (dNotT (dTruth (dCall gIsi (dCons (dVar 5) (dCons (dC (.ty .int)) dNil))))) (dTruth (dCall gIsi (dCons (dVar 5) (dCons (dC (.ty .bool)) dNil))))) (dVar 5) [5]) (dLst false dNil))))) (sRet (dC (.bl false))) sNil)) (sSeq (sIf (dOrT (dBool (dOp (gEq true) (dCall gLenS (dCons (dCall gSetOf (dCons (dVar 0) dNil)) dNil)) (dCall gLen (dCons (dVar 0) dNil)))) (dBool (dOp (gEq true) (dFnP F__law_settle (dCons (dVar 0) dNil)) (dVar 0)))) (sRet (dC (.bl false))) sNil) (sSeq (sPar 2 3 (dCons (dLst true (dCons (dOp gIx (dVar 0) (dC (.int 0))) dNil)) (dCons (dLst true (dCons (dOp gIx (dVar 0) (dC (.int 0))) dNil)) dNil))) (sSeq (sWhile 1000 (dBool (dOp (gEq true) (dVar 3) (dLst false dNil))) (sSeq (sSet 4 (dMeth "list" gPop (dVar 3) dNil)) (sFor (dSeq (dVar 0)) (tgN 1) (sIf (dAndT (dBool (dOp (gIn true) (dVar 1) (dVar 2))) (dBool (dOp (gEq false) (dOp (gAdd false) (dCall gAbs (dCons (dOp gSub (dOp gIx (dVar 1) (dC (.int 0))) (dOp gIx (dVar 4) (dC (.int 0)))) dNil)) (dCall gAbs (dCons (dOp gSub (dOp gIx (dVar 1) (dC (.int 1))) (dOp gIx (dVar 4) (dC (.int 1)))) dNil))) (dC (.int 1))))) (sSeq (sExpr (dMeth "list" gAppend (dVar 2) (dCons (dVar 1) dNil))) (sExpr (dMeth "list" gAppend (dVar 3) (dCons (dVar 1) dNil)))) sNil)))) (sRet (dOp (gEq false) (dCall gLen (dCons (dVar 2) dNil)) (dCall gLen (dCons (dVar 0) dNil)))))))))
def F__law_is_piece : Fn := runDef 6 body__law_is_piece
theorem ok__law_is_piece (Z : Facts K mg fa.f fd) (hw : fa.w = w) : FnOk P w K mg base (L2.CX P w) 2 (fa 40) (fd 40) ["value"] (spD K fa 1 F__law_is_piece) :=
  def_ok (k := 1) (N := N__law_is_piece) Z.F__law_is_piece sc__law_is_piece rfl fun cdv A outer s H E hr => by
    have tk : Takes (cxOf (L2.CX P w) P w K mg base N__law_is_piece "_law_is_piece" (defScope st__law_is_piece) (fa 40) cdv A outer s H E) (wDef E) := takes_of rfl rfl rfl rfl
    have po := passes_of (X := (cxOf (L2.CX P w) P w K mg base N__law_is_piece "_law_is_piece" (defScope st__law_is_piece) (fa 40) cdv A outer s H E)) rfl
    exact (dss_cons (ds_if (dt_of (dw_or (dt_not (dt_truth (de_callB call_isiA isiD (by rfl) Z.n_isinstance (by decide +kernel) (da_cons (de_var (pv 0)) (da_cons (de_ty (t := .tuple) (by rfl) Z.n_tuple (by decide +kernel)) da_nil))) (fun _ => rfl))) (dw_or1 (dt_not (dt_chain op_le op_le leD leD de_int (de_callB call_len lenD (by rfl) Z.n_len (by decide +kernel) (da_cons (de_var (pv 0)) da_nil)) de_int))))) (dss_one (ds_ret de_bl)) dss_nil)
    (dss_cons (ds_for po rfl (di_seq (de_var (pv 0))) (dg_name (i := 1) (pg_name (i := 1) sc__law_is_piece.nd rfl (Or.inl rfl))) (dss_one (ds_if (dt_of (dw_or (dt_not (dt_truth (de_callB call_isiA isiD (by rfl) Z.n_isinstance (by decide +kernel) (da_cons (de_var (pv 1)) (da_cons (de_ty (t := .tuple) (by rfl) Z.n_tuple (by decide +kernel)) da_nil))) (fun _ => rfl))) (dw_or (dt_cmp (op_neD hr.units) neD (de_callB call_len lenD (by rfl) Z.n_len (by decide +kernel) (da_cons (de_var (pv 1)) da_nil)) de_int (nomark _)) (dw_or1 (dt_cmp (op_neD hr.units) neD (de_lc (own := [("k", 5)]) (ns := [5]) false rfl sc__law_is_piece.nd (di_seq (de_var (pv 1))) (blkOk_by (N := N__law_is_piece) (sc := defScope st__law_is_piece) (by decide +kernel)) (by decide) (fun _ _ _ _ _ => (dg_name (i := 5) (pg_name (i := 5) sc__law_is_piece.nd rfl (by first | exact Or.inl rfl | exact Or.inr rfl)))) (fun _ _ _ _ _ => (dts_one (dt_of (dw_or (dt_not (dt_truth (de_callB call_isiA isiD (by rfl) Z.n_isinstance (by decide +kernel) (da_cons (de_var (pv 5)) (da_cons (de_ty (t := .int) (by rfl) Z.n_int (by decide +kernel)) da_nil))) (fun _ => rfl))) (dw_or1 (dt_truth (de_callB call_isiA isiD (by rfl) Z.n_isinstance (by decide +kernel) (da_cons (de_var (pv 5)) (da_cons (de_ty (t := .bool) (by rfl) Z.n_bool (by decide +kernel)) da_nil))) (fun _ => rfl))))))) (fun _ _ _ _ _ => (de_var (pv 5)))) (de_lst false da_nil) (nomark _)))))) (dss_one (ds_ret de_bl)) dss_nil)))
    (dss_cons (ds_if (dt_of (dw_or (dt_cmp (op_neD hr.units) neD (de_callB (call_lenS hw) lenSD (by rfl) Z.n_len (by decide +kernel) (da_cons (de_callT (call_setA hw rfl (hu66 hr)) setD (by rfl) Z.n_set (by decide +kernel) (da_cons (de_var (pv 0)) da_nil)) da_nil)) (de_callB call_len lenD (by rfl) Z.n_len (by decide +kernel) (da_cons (de_var (pv 0)) da_nil)) (nomark _)) (dw_or1 (dt_cmp (op_neD hr.units) neD (de_fnP (ok__law_settle Z hw) (hr.mono (by decide)) (by rfl) Z.g__law_settle Z.k__law_settle Z.b__law_settle tk (da_cons (de_var (pv 0)) da_nil) (len_cons len_nil)) (de_var (pv 0)) (nomark _))))) (dss_one (ds_ret de_bl)) dss_nil)
    (dss_cons (ds_par (i := 2) (j := 3) rfl sc__law_is_piece.nd rfl rfl (by decide) rfl rfl (da_cons (de_lst true (da_cons (de_ix (de_var (pv 0)) de_int (fun _ _ => rfl)) da_nil)) (da_cons (de_lst true (da_cons (de_ix (de_var (pv 0)) de_int (fun _ _ => rfl)) da_nil)) da_nil)) (by rfl))
    (dss_cons (ds_while 1000 po (dt_cmp (op_neD hr.units) neD (de_var (pv 3)) (de_lst false da_nil) (nomark _)) (dss_cons (ds_set (i := 4) sc__law_is_piece.nd rfl (Or.inl rfl) (de_meth0 PySem.F.plainAttrs_list PySem.F.slot_list_pop PySem.F.type_list_pop mt_pop popD (de_var (pv 3))))
    (dss_one (ds_for po rfl (di_seq (de_var (pv 0))) (dg_name (i := 1) (pg_name (i := 1) sc__law_is_piece.nd rfl (Or.inl rfl))) (dss_one (ds_if (dt_of (dw_and (dt_cmp (op_notInA (hu65 hr)) (inD true) (de_var (pv 1)) (de_var (pv 2)) (by rfl)) (dw_and1 (dt_cmp (op_eqD hr.units) eqD (de_op op_addA (addD false) (de_callB call_abs absD (by rfl) Z.n_abs (by decide +kernel) (da_cons (de_op op_sub subD (de_ix (de_var (pv 1)) de_int (fun _ _ => rfl)) (de_ix (de_var (pv 4)) de_int (fun _ _ => rfl))) da_nil)) (de_callB call_abs absD (by rfl) Z.n_abs (by decide +kernel) (da_cons (de_op op_sub subD (de_ix (de_var (pv 1)) de_int (fun _ _ => rfl)) (de_ix (de_var (pv 4)) de_int (fun _ _ => rfl))) da_nil))) de_int (nomark _))))) (dss_cons (ds_expr (de_meth PySem.F.plainAttrs_list PySem.F.slot_list_append PySem.F.type_list_append mt_append appendD (de_var (pv 2)) (da_cons (de_var (pv 1)) da_nil)))
    (dss_one (ds_expr (de_meth PySem.F.plainAttrs_list PySem.F.slot_list_append PySem.F.type_list_append mt_append appendD (de_var (pv 3)) (da_cons (de_var (pv 1)) da_nil))))) dss_nil))))))
    (dss_one (ds_ret (de_cmp (op_eqD hr.units) eqD (de_callB call_len lenD (by rfl) Z.n_len (by decide +kernel) (da_cons (de_var (pv 2)) da_nil)) (de_callB call_len lenD (by rfl) Z.n_len (by decide +kernel) (da_cons (de_var (pv 0)) da_nil)) (nomark _)))))))))
abbrev st__cells_beside : Stmt := topS 25
abbrev N__cells_beside : List Str := ["cell", "row", "column"]
theorem sc__cells_beside : FnScope N__cells_beside ["cell"] (defScope st__cells_beside) := ⟨rfl, rfl, rfl, by decide +kernel, rfl, by decide +kernel, by decide +kernel⟩
def body__cells_beside : SD := (sSeq (sAsg (tgTup 2 (tgCons (tgN 1) (tgCons (tgN 2) tgNil))) (dVar 0)) (sRet (dLst false (dCons (dTup (dCons (dOp gSub (dVar 1) (dC (.int 1))) (dCons (dVar 2) dNil))) (dCons (dTup (dCons (dVar 1) (dCons (dOp gSub (dVar 2) (dC (.int 1))) dNil))) (dCons (dTup (dCons (dVar 1) (dCons (dOp (gAdd false) (dVar 2) (dC (.int 1))) dNil))) (dCons (dTup (dCons (dOp (gAdd false) (dVar 1) (dC (.int 1))) (dCons (dVar 2) dNil))) dNil)))))))
def F__cells_beside : Fn := runDef 3 body__cells_beside
theorem ok__cells_beside (Z : Facts K mg fa.f fd) (hw : fa.w = w) : FnOk P w K mg base (L2.CX P w) 1 (fa 18) (fd 18) ["cell"] (spD K fa 1 F__cells_beside) :=
  def_ok (k := 0) (N := N__cells_beside) Z.F__cells_beside sc__cells_beside rfl fun cdv A outer s H E hr => by
    have tk : Takes (cxOf (L2.CX P w) P w K mg base N__cells_beside "_cells_beside" (defScope st__cells_beside) (fa 18) cdv A outer s H E) (wDef E) := takes_of rfl rfl rfl rfl
    have po := passes_of (X := (cxOf (L2.CX P w) P w K mg base N__cells_beside "_cells_beside" (defScope st__cells_beside) (fa 18) cdv A outer s H E)) rfl
    exact (dss_cons (ds_asg (de_var (pv 0)) (dg_tup rfl (dgs_cons (dg_name (i := 1) (pg_name (i := 1) sc__cells_beside.nd rfl (Or.inl rfl))) (dgs_cons (dg_name (i := 2) (pg_name (i := 2) sc__cells_beside.nd rfl (Or.inl rfl))) dgs_nil))))
    (dss_one (ds_ret (de_lst false (da_cons (de_tup (da_cons (de_op op_sub subD (de_var (pv 1)) de_int) (da_cons (de_var (pv 2)) da_nil))) (da_cons (de_tup (da_cons (de_var (pv 1)) (da_cons (de_op op_sub subD (de_var (pv 2)) de_int) da_nil))) (da_cons (de_tup (da_cons (de_var (pv 1)) (da_cons (de_op op_addA (addD false) (de_var (pv 2)) de_int) da_nil))) (da_cons (de_tup (da_cons (de_op op_addA (addD false) (de_var (pv 1)) de_int) (da_cons (de_var (pv 2)) da_nil))) da_nil))))))))
abbrev st__hangs_together : Stmt := topS 26
abbrev N__hangs_together : List Str := ["cells", "reached", "at", "here", "cell"]
theorem sc__hangs_together : FnScope N__hangs_together ["cells"] (defScope st__hangs_together) := ⟨rfl, rfl, rfl, by decide +kernel, rfl, by decide +kernel, by decide +kernel⟩
def body__hangs_together : SD := (sSeq (sSet 1 (dLst true (dCons (dOp gIx (dVar 0) (dC (.int 0))) dNil))) (sSeq (sSet 2 (dC (.int 0))) (sSeq (sWhile 1000 (dBool (dOp gLt (dVar 2) (dCall gLen (dCons (dVar 1) dNil)))) (sSeq (sSet 3 (dOp gIx (dVar 1) (dVar 2))) (sSeq (sFor (dSeq (dFnP F__cells_beside (dCons (dVar 3) dNil))) (tgN 4) (sIf (dAndT (dBool (dOp (gIn false) (dVar 4) (dVar 0))) (dBool (dOp (gIn true) (dVar 4) (dVar 1)))) (sExpr (dMeth "list" gAppend (dVar 1) (dCons (dVar 4) dNil))) sNil)) (sAug 2 (fun i j => i + j) (dC (.int 1)))))) (sRet (dOp (gEq false) (dCall gLen (dCons (dVar 1) dNil)) (dCall gLen (dCons (dVar 0) dNil)))))))
def F__hangs_together : Fn := runDef 5 body__hangs_together
theorem ok__hangs_together (Z : Facts K mg fa.f fd) (hw : fa.w = w) : FnOk P w K mg base (L2.CX P w) 2 (fa 19) (fd 19) ["cells"] (spD K fa 1 F__hangs_together) :=
  def_ok (k := 1) (N := N__hangs_together) Z.F__hangs_together sc__hangs_together rfl fun cdv A outer s H E hr => by
    have tk : Takes (cxOf (L2.CX P w) P w K mg base N__hangs_together "_hangs_together" (defScope st__hangs_together) (fa 19) cdv A outer s H E) (wDef E) := takes_of rfl rfl rfl rfl
    have po := passes_of (X := (cxOf (L2.CX P w) P w K mg base N__hangs_together "_hangs_together" (defScope st__hangs_together) (fa 19) cdv A outer s H E)) rfl
    exact (dss_cons (ds_set (i := 1) sc__hangs_together.nd rfl (Or.inl rfl) (de_lst true (da_cons (de_ix (de_var (pv 0)) de_int (fun _ _ => rfl)) da_nil)))
    (dss_cons (ds_set (i := 2) sc__hangs_together.nd rfl (Or.inl rfl) de_int)
    (dss_cons (ds_while 1000 po (dt_cmp op_lt ltD (de_var (pv 2)) (de_callB call_len lenD (by rfl) Z.n_len (by decide +kernel) (da_cons (de_var (pv 1)) da_nil)) (nomark _)) (dss_cons (ds_set (i := 3) sc__hangs_together.nd rfl (Or.inl rfl) (de_ix (de_var (pv 1)) (de_var (pv 2)) (fun _ _ => rfl)))
    (dss_cons (ds_for po rfl (di_seq (de_fnP (ok__cells_beside Z hw) (hr.mono (by decide)) (by rfl) Z.g__cells_beside Z.k__cells_beside Z.b__cells_beside tk (da_cons (de_var (pv 3)) da_nil) (len_cons len_nil))) (dg_name (i := 4) (pg_name (i := 4) sc__hangs_together.nd rfl (Or.inl rfl))) (dss_one (ds_if (dt_of (dw_and (dt_cmp (op_inA (hu65 hr)) (inD false) (de_var (pv 4)) (de_var (pv 0)) (by rfl)) (dw_and1 (dt_cmp (op_notInA (hu65 hr)) (inD true) (de_var (pv 4)) (de_var (pv 1)) (by rfl))))) (dss_one (ds_expr (de_meth PySem.F.plainAttrs_list PySem.F.slot_list_append PySem.F.type_list_append mt_append appendD (de_var (pv 1)) (da_cons (de_var (pv 4)) da_nil)))) dss_nil)))
    (dss_one (ds_aug (i := 2) sc__hangs_together.nd rfl (Or.inl rfl) de_int ip_add)))))
    (dss_one (ds_ret (de_cmp (op_eqD hr.units) eqD (de_callB call_len lenD (by rfl) Z.n_len (by decide +kernel) (da_cons (de_var (pv 1)) da_nil)) (de_callB call_len lenD (by rfl) Z.n_len (by decide +kernel) (da_cons (de_var (pv 0)) da_nil)) (nomark _)))))))
abbrev st_is_an_integer : Stmt := topS 11
abbrev N_is_an_integer : List Str := ["value"]
theorem sc_is_an_integer : FnScope N_is_an_integer ["value"] (defScope st_is_an_integer) := ⟨rfl, rfl, rfl, by decide +kernel, rfl, by decide +kernel, by decide +kernel⟩
def body_is_an_integer : SD := (sRet (dAndV (dCall gIsi (dCons (dVar 0) (dCons (dC (.ty .int)) dNil))) (dNotV (dCall gIsi (dCons (dVar 0) (dCons (dC (.ty .bool)) dNil))))))
def F_is_an_integer : Fn := runDef 1 body_is_an_integer
theorem ok_is_an_integer (Z : Facts K mg fa.f fd) (hw : fa.w = w) : FnOk P w K mg base (L2.CX P w) 1 (fa 6) (fd 6) ["value"] (spD K fa 1 F_is_an_integer) :=
  def_ok (k := 0) (N := N_is_an_integer) Z.F_is_an_integer sc_is_an_integer rfl fun cdv A outer s H E hr => by
    have tk : Takes (cxOf (L2.CX P w) P w K mg base N_is_an_integer "is_an_integer" (defScope st_is_an_integer) (fa 6) cdv A outer s H E) (wDef E) := takes_of rfl rfl rfl rfl
    have po := passes_of (X := (cxOf (L2.CX P w) P w K mg base N_is_an_integer "is_an_integer" (defScope st_is_an_integer) (fa 6) cdv A outer s H E)) rfl
    exact (dss_one (ds_ret (de_and (de_callB call_isiA isiD (by rfl) Z.n_isinstance (by decide +kernel) (da_cons (de_var (pv 0)) (da_cons (de_ty (t := .int) (by rfl) Z.n_int (by decide +kernel)) da_nil))) (de_b1 (de_not (de_callB call_isiA isiD (by rfl) Z.n_isinstance (by decide +kernel) (da_cons (de_var (pv 0)) (da_cons (de_ty (t := .bool) (by rfl) Z.n_bool (by decide +kernel)) da_nil))))))))
abbrev st__is_pair_of_integers : Stmt := topS 14
abbrev N__is_pair_of_integers : List Str := ["value", "part"]
theorem sc__is_pair_of_integers : FnScope N__is_pair_of_integers ["value"] (defScope st__is_pair_of_integers) := ⟨rfl, rfl, rfl, by decide +kernel, rfl, by decide +kernel, by decide +kernel⟩
def body__is_pair_of_integers : SD := (sRet (dAndV (dCall gIsi (dCons (dVar 0) (dCons (dC (.ty .tuple)) dNil))) (dAndV (dOp (gEq false) (dCall gLen (dCons (dVar 0) dNil)) (dC (.int 2))) (dCall (gBols fun l => l.all id) (dCons (dLc false (dSeq (dVar 0)) (tgN 1) dYes (dFnP F_is_an_integer (dCons (dVar 1) dNil)) [1]) dNil)))))
def F__is_pair_of_integers : Fn := runDef 2 body__is_pair_of_integers
theorem ok__is_pair_of_integers (Z : Facts K mg fa.f fd) (hw : fa.w = w) : FnOk P w K mg base (L2.CX P w) 2 (fa 9) (fd 9) ["value"] (spD K fa 1 F__is_pair_of_integers) :=
  def_ok (k := 1) (N := N__is_pair_of_integers) Z.F__is_pair_of_integers sc__is_pair_of_integers rfl fun cdv A outer s H E hr => by
    have tk : Takes (cxOf (L2.CX P w) P w K mg base N__is_pair_of_integers "_is_pair_of_integers" (defScope st__is_pair_of_integers) (fa 9) cdv A outer s H E) (wDef E) := takes_of rfl rfl rfl rfl
    have po := passes_of (X := (cxOf (L2.CX P w) P w K mg base N__is_pair_of_integers "_is_pair_of_integers" (defScope st__is_pair_of_integers) (fa 9) cdv A outer s H E)) rfl
    exact (dss_one (ds_ret (de_and (de_callB call_isiA isiD (by rfl) Z.n_isinstance (by decide +kernel) (da_cons (de_var (pv 0)) (da_cons (de_ty (t := .tuple) (by rfl) Z.n_tuple (by decide +kernel)) da_nil))) (de_and (de_cmp (op_eqD hr.units) eqD (de_callB call_len lenD (by rfl) Z.n_len (by decide +kernel) (da_cons (de_var (pv 0)) da_nil)) de_int (nomark _)) (de_b1 (de_callB (cr_all rfl) (bolsCD fun l => l.all id) (by rfl) Z.n_all (by decide +kernel) (da_cons (de_lc (own := [("part", 1)]) (ns := [1]) false rfl sc__is_pair_of_integers.nd (di_seq (de_var (pv 0))) (blkOk_by (N := N__is_pair_of_integers) (sc := defScope st__is_pair_of_integers) (by decide +kernel)) (by decide) (fun _ _ _ _ _ => (dg_name (i := 1) (pg_name (i := 1) sc__is_pair_of_integers.nd rfl (by first | exact Or.inl rfl | exact Or.inr rfl)))) (fun _ _ _ _ _ => dts_nil) (fun _ _ _ _ _ => (de_fnP (ok_is_an_integer Z hw) (hr.mono (by decide)) (by rfl) Z.g_is_an_integer Z.k_is_an_integer Z.b_is_an_integer takes00 (da_cons (de_var (pv 1)) da_nil) (len_cons len_nil)))) da_nil)))))))
abbrev st_is_cell : Stmt := topS 13
abbrev N_is_cell : List Str := ["value"]
theorem sc_is_cell : FnScope N_is_cell ["value"] (defScope st_is_cell) := ⟨rfl, rfl, rfl, by decide +kernel, rfl, by decide +kernel, by decide +kernel⟩
def body_is_cell : SD := (sRet (dFnP F__is_pair_of_integers (dCons (dVar 0) dNil)))
def F_is_cell : Fn := runDef 1 body_is_cell
theorem ok_is_cell (Z : Facts K mg fa.f fd) (hw : fa.w = w) : FnOk P w K mg base (L2.CX P w) 3 (fa 8) (fd 8) ["value"] (spD K fa 1 F_is_cell) :=
  def_ok (k := 2) (N := N_is_cell) Z.F_is_cell sc_is_cell rfl fun cdv A outer s H E hr => by
    have tk : Takes (cxOf (L2.CX P w) P w K mg base N_is_cell "is_cell" (defScope st_is_cell) (fa 8) cdv A outer s H E) (wDef E) := takes_of rfl rfl rfl rfl
    have po := passes_of (X := (cxOf (L2.CX P w) P w K mg base N_is_cell "is_cell" (defScope st_is_cell) (fa 8) cdv A outer s H E)) rfl
    exact (dss_one (ds_ret (de_fnP (ok__is_pair_of_integers Z hw) (hr.mono (by decide)) (by rfl) Z.g__is_pair_of_integers Z.k__is_pair_of_integers Z.b__is_pair_of_integers tk (da_cons (de_var (pv 0)) da_nil) (len_cons len_nil))))
abbrev st_moved_home : Stmt := topS 6
abbrev N_moved_home : List Str := ["cells", "top", "left", "row", "column"]
theorem sc_moved_home : FnScope N_moved_home ["cells"] (defScope st_moved_home) := ⟨rfl, rfl, rfl, by decide +kernel, rfl, by decide +kernel, by decide +kernel⟩
def body_moved_home : SD := (sSeq (sSet 1 (dCall (gInt2 (fun i j => if j < i then j else i) (gInts true minI)) (dCons (dLc false (dSeq (dVar 0)) (tgTup 2 (tgCons (tgN 3) (tgCons (tgN 4) tgNil))) dYes (dVar 3) [3, 4]) dNil))) (sSeq (sSet 2 (dCall (gInt2 (fun i j => if j < i then j else i) (gInts true minI)) (dCons (dLc false (dSeq (dVar 0)) (tgTup 2 (tgCons (tgN 3) (tgCons (tgN 4) tgNil))) dYes (dVar 4) [3, 4]) dNil))) (sRet (dLc false (dSeq (dVar 0)) (tgTup 2 (tgCons (tgN 3) (tgCons (tgN 4) tgNil))) dYes (dTup (dCons (dOp gSub (dVar 3) (dVar 1)) (dCons (dOp gSub (dVar 4) (dVar 2)) dNil))) [3, 4]))))
def F_moved_home : Fn := runDef 5 body_moved_home
theorem ok_moved_home (Z : Facts K mg fa.f fd) (hw : fa.w = w) : FnOk P w K mg base (L2.CX P w) 1 (fa 2) (fd 2) ["cells"] (spD K fa 1 F_moved_home) :=
  def_ok (k := 0) (N := N_moved_home) Z.F_moved_home sc_moved_home rfl fun cdv A outer s H E hr => by
    have tk : Takes (cxOf (L2.CX P w) P w K mg base N_moved_home "moved_home" (defScope st_moved_home) (fa 2) cdv A outer s H E) (wDef E) := takes_of rfl rfl rfl rfl
    have po := passes_of (X := (cxOf (L2.CX P w) P w K mg base N_moved_home "moved_home" (defScope st_moved_home) (fa 2) cdv A outer s H E)) rfl
    exact (dss_cons (ds_set (i := 1) sc_moved_home.nd rfl (Or.inr rfl) (de_callB (CallR.or (call_min2 rfl) (cr_min rfl)) (int2D minLD) (by rfl) Z.n_min (by decide +kernel) (da_cons (de_lc (own := [("row", 3), ("column", 4)]) (ns := [3, 4]) false rfl sc_moved_home.nd (di_seq (de_var (pv 0))) (blkOk_by (N := N_moved_home) (sc := defScope st_moved_home) (by decide +kernel)) (by decide) (fun _ _ _ _ _ => (dg_tup rfl (dgs_cons (dg_name (i := 3) (pg_name (i := 3) sc_moved_home.nd rfl (by first | exact Or.inl rfl | exact Or.inr rfl))) (dgs_cons (dg_name (i := 4) (pg_name (i := 4) sc_moved_home.nd rfl (by first | exact Or.inl rfl | exact Or.inr rfl))) dgs_nil)))) (fun _ _ _ _ _ => dts_nil) (fun _ _ _ _ _ => (de_var (pv 3)))) da_nil)))
    (dss_cons (ds_set (i := 2) sc_moved_home.nd rfl (Or.inr rfl) (de_callB (CallR.or (call_min2 rfl) (cr_min rfl)) (int2D minLD) (by rfl) Z.n_min (by decide +kernel) (da_cons (de_lc (own := [("row", 3), ("column", 4)]) (ns := [3, 4]) false rfl sc_moved_home.nd (di_seq (de_var (pv 0))) (blkOk_by (N := N_moved_home) (sc := defScope st_moved_home) (by decide +kernel)) (by decide) (fun _ _ _ _ _ => (dg_tup rfl (dgs_cons (dg_name (i := 3) (pg_name (i := 3) sc_moved_home.nd rfl (by first | exact Or.inl rfl | exact Or.inr rfl))) (dgs_cons (dg_name (i := 4) (pg_name (i := 4) sc_moved_home.nd rfl (by first | exact Or.inl rfl | exact Or.inr rfl))) dgs_nil)))) (fun _ _ _ _ _ => dts_nil) (fun _ _ _ _ _ => (de_var (pv 4)))) da_nil)))
    (dss_one (ds_ret (de_lc (own := [("row", 3), ("column", 4)]) (ns := [3, 4]) false rfl sc_moved_home.nd (di_seq (de_var (pv 0))) (blkOk_by (N := N_moved_home) (sc := defScope st_moved_home) (by decide +kernel)) (by decide) (fun _ _ _ _ _ => (dg_tup rfl (dgs_cons (dg_name (i := 3) (pg_name (i := 3) sc_moved_home.nd rfl (by first | exact Or.inl rfl | exact Or.inr rfl))) (dgs_cons (dg_name (i := 4) (pg_name (i := 4) sc_moved_home.nd rfl (by first | exact Or.inl rfl | exact Or.inr rfl))) dgs_nil)))) (fun _ _ _ _ _ => dts_nil) (fun _ _ _ _ _ => (de_tup (da_cons (de_op op_sub subD (de_var (pv 3)) (de_var (pv 1))) (da_cons (de_op op_sub subD (de_var (pv 4)) (de_var (pv 2))) da_nil)))))))))
abbrev st_set_home : Stmt := topS 7
abbrev N_set_home : List Str := ["cells"]
theorem sc_set_home : FnScope N_set_home ["cells"] (defScope st_set_home) := ⟨rfl, rfl, rfl, by decide +kernel, rfl, by decide +kernel, by decide +kernel⟩
def body_set_home : SD := (sRet (dCall gTuple (dCons (dCall (gSortB false) (dCons (dFnP F_moved_home (dCons (dVar 0) dNil)) dNil)) dNil)))
def F_set_home : Fn := runDef 1 body_set_home
theorem ok_set_home (Z : Facts K mg fa.f fd) (hw : fa.w = w) : FnOk P w K mg base (L2.CX P w) 2 (fa 3) (fd 3) ["cells"] (spD K fa 1 F_set_home) :=
  def_ok (k := 1) (N := N_set_home) Z.F_set_home sc_set_home rfl fun cdv A outer s H E hr => by
    have tk : Takes (cxOf (L2.CX P w) P w K mg base N_set_home "set_home" (defScope st_set_home) (fa 3) cdv A outer s H E) (wDef E) := takes_of rfl rfl rfl rfl
    have po := passes_of (X := (cxOf (L2.CX P w) P w K mg base N_set_home "set_home" (defScope st_set_home) (fa 3) cdv A outer s H E)) rfl
    exact (dss_one (ds_ret (de_callT call_tuple_of tupleD (by rfl) Z.n_tuple (by decide +kernel) (da_cons (de_callB (call_sortB hw rfl (hu66 hr)) (sortBD false) (by rfl) Z.n_sorted (by decide +kernel) (da_cons (de_fnP (ok_moved_home Z hw) (hr.mono (by decide)) (by rfl) Z.g_moved_home Z.k_moved_home Z.b_moved_home tk (da_cons (de_var (pv 0)) da_nil) (len_cons len_nil)) da_nil)) da_nil))))
abbrev st_is_piece : Stmt := topS 17
abbrev N_is_piece : List Str := ["value", "cell"]
theorem sc_is_piece : FnScope N_is_piece ["value"] (defScope st_is_piece) := ⟨rfl, rfl, rfl, by decide +kernel, rfl, by decide +kernel, by decide +kernel⟩
def body_is_piece : SD := (sSeq (sIf (dOrT (dNotT (dTruth (dCall gIsi (dCons (dVar 0) (dCons (dC (.ty .tuple)) dNil))))) (dNotT (dBool (dChain gLe gLe (dC (.int 1)) (dCall gLen (dCons (dVar 0) dNil)) (dC (.int 5)))))) (sRet (dC (.bl false))) sNil) (sSeq (sIf (dNotT (dTruth (dCall (gBols fun l => l.all id) (dCons (dLc false (dSeq (dVar 0)) (tgN 1) dYes (dFnP F_is_cell (dCons (dVar 1) dNil)) [1]) dNil)))) (sRet (dC (.bl false))) sNil) (sRet (dAndV (dOp (gEq false) (dCall gLenS (dCons (dCall gSetOf (dCons (dVar 0) dNil)) dNil)) (dCall gLen (dCons (dVar 0) dNil))) (dAndV (dOp (gEq false) (dFnP F_set_home (dCons (dVar 0) dNil)) (dVar 0)) (dFnP F__hangs_together (dCons (dVar 0) dNil)))))))
def F_is_piece : Fn := runDef 2 body_is_piece
theorem ok_is_piece (Z : Facts K mg fa.f fd) (hw : fa.w = w) : FnOk P w K mg base (L2.CX P w) 4 (fa 10) (fd 10) ["value"] (spD K fa 1 F_is_piece) :=
  def_ok (k := 3) (N := N_is_piece) Z.F_is_piece sc_is_piece rfl fun cdv A outer s H E hr => by
    have tk : Takes (cxOf (L2.CX P w) P w K mg base N_is_piece "is_piece" (defScope st_is_piece) (fa 10) cdv A outer s H E) (wDef E) := takes_of rfl rfl rfl rfl
    have po := passes_of (X := (cxOf (L2.CX P w) P w K mg base N_is_piece "is_piece" (defScope st_is_piece) (fa 10) cdv A outer s H E)) rfl
    exact (dss_cons (ds_if (dt_of (dw_or (dt_not (dt_truth (de_callB call_isiA isiD (by rfl) Z.n_isinstance (by decide +kernel) (da_cons (de_var (pv 0)) (da_cons (de_ty (t := .tuple) (by rfl) Z.n_tuple (by decide +kernel)) da_nil))) (fun _ => rfl))) (dw_or1 (dt_not (dt_chain op_le op_le leD leD de_int (de_callB call_len lenD (by rfl) Z.n_len (by decide +kernel) (da_cons (de_var (pv 0)) da_nil)) (de_gintE (by rfl) Z.c_MOST_CELLS)))))) (dss_one (ds_ret de_bl)) dss_nil)
    (dss_cons (ds_if (dt_not (dt_truth (de_callB (cr_all rfl) (bolsCD fun l => l.all id) (by rfl) Z.n_all (by decide +kernel) (da_cons (de_lc (own := [("cell", 1)]) (ns := [1]) false rfl sc_is_piece.nd (di_seq (de_var (pv 0))) (blkOk_by (N := N_is_piece) (sc := defScope st_is_piece) (by decide +kernel)) (by decide) (fun _ _ _ _ _ => (dg_name (i := 1) (pg_name (i := 1) sc_is_piece.nd rfl (by first | exact Or.inl rfl | exact Or.inr rfl)))) (fun _ _ _ _ _ => dts_nil) (fun _ _ _ _ _ => (de_fnP (ok_is_cell Z hw) (hr.mono (by decide)) (by rfl) Z.g_is_cell Z.k_is_cell Z.b_is_cell takes00 (da_cons (de_var (pv 1)) da_nil) (len_cons len_nil)))) da_nil)) (fun _ => rfl))) (dss_one (ds_ret de_bl)) dss_nil)
    (dss_one (ds_ret (de_and (de_cmp (op_eqD hr.units) eqD (de_callB (call_lenS hw) lenSD (by rfl) Z.n_len (by decide +kernel) (da_cons (de_callT (call_setA hw rfl (hu66 hr)) setD (by rfl) Z.n_set (by decide +kernel) (da_cons (de_var (pv 0)) da_nil)) da_nil)) (de_callB call_len lenD (by rfl) Z.n_len (by decide +kernel) (da_cons (de_var (pv 0)) da_nil)) (nomark _)) (de_and (de_cmp (op_eqD hr.units) eqD (de_fnP (ok_set_home Z hw) (hr.mono (by decide)) (by rfl) Z.g_set_home Z.k_set_home Z.b_set_home tk (da_cons (de_var (pv 0)) da_nil) (len_cons len_nil)) (de_var (pv 0)) (nomark _)) (de_b1 (de_fnP (ok__hangs_together Z hw) (hr.mono (by decide)) (by rfl) Z.g__hangs_together Z.k__hangs_together Z.b__hangs_together tk (da_cons (de_var (pv 0)) da_nil) (len_cons len_nil)))))))))
abbrev st__check_piece : Stmt := topS 24
abbrev N__check_piece : List Str := ["value"]
theorem sc__check_piece : FnScope N__check_piece ["value"] (defScope st__check_piece) := ⟨rfl, rfl, rfl, by decide +kernel, rfl, by decide +kernel, by decide +kernel⟩
def body__check_piece : SD := (sIf (dNotT (dTruth (dFnP F_is_piece (dCons (dVar 0) dNil)))) (sRaise 45) sNil)
def F__check_piece : Fn := runDef 1 body__check_piece
theorem ok__check_piece (Z : Facts K mg fa.f fd) (hw : fa.w = w) : FnOk P w K mg base (L2.CX P w) 5 (fa 17) (fd 17) ["value"] (spD K fa 1 F__check_piece) :=
  def_ok (k := 4) (N := N__check_piece) Z.F__check_piece sc__check_piece rfl fun cdv A outer s H E hr => by
    have tk : Takes (cxOf (L2.CX P w) P w K mg base N__check_piece "_check_piece" (defScope st__check_piece) (fa 17) cdv A outer s H E) (wDef E) := takes_of rfl rfl rfl rfl
    have po := passes_of (X := (cxOf (L2.CX P w) P w K mg base N__check_piece "_check_piece" (defScope st__check_piece) (fa 17) cdv A outer s H E)) rfl
    exact (dss_one (ds_if (dt_not (dt_truth (de_fnP (ok_is_piece Z hw) (hr.mono (by decide)) (by rfl) Z.g_is_piece Z.k_is_piece Z.b_is_piece tk (da_cons (de_var (pv 0)) da_nil) (len_cons len_nil)) (fun _ => rfl))) (dss_one (ds_raise0 (c := 45) rfl tk (pmk_own0 PySem.F.excBase_ValueError Z.x_BadPiece Z.g_BadPiece Z.k_BadPiece (raises_own Z.s_BadPiece Z.t_BadPiece) (by exact rfl)))) dss_nil))
abbrev st_turned_cells : Stmt := topS 4
abbrev N_turned_cells : List Str := ["cells", "row", "column"]
theorem sc_turned_cells : FnScope N_turned_cells ["cells"] (defScope st_turned_cells) := ⟨rfl, rfl, rfl, by decide +kernel, rfl, by decide +kernel, by decide +kernel⟩
def body_turned_cells : SD := (sRet (dFnP F_moved_home (dCons (dLc false (dSeq (dVar 0)) (tgTup 2 (tgCons (tgN 1) (tgCons (tgN 2) tgNil))) dYes (dTup (dCons (dVar 2) (dCons (dUn gNeg (dVar 1)) dNil))) [1, 2]) dNil)))
def F_turned_cells : Fn := runDef 3 body_turned_cells
theorem ok_turned_cells (Z : Facts K mg fa.f fd) (hw : fa.w = w) : FnOk P w K mg base (L2.CX P w) 2 (fa 0) (fd 0) ["cells"] (spD K fa 1 F_turned_cells) :=
  def_ok (k := 1) (N := N_turned_cells) Z.F_turned_cells sc_turned_cells rfl fun cdv A outer s H E hr => by
    have tk : Takes (cxOf (L2.CX P w) P w K mg base N_turned_cells "turned_cells" (defScope st_turned_cells) (fa 0) cdv A outer s H E) (wDef E) := takes_of rfl rfl rfl rfl
    have po := passes_of (X := (cxOf (L2.CX P w) P w K mg base N_turned_cells "turned_cells" (defScope st_turned_cells) (fa 0) cdv A outer s H E)) rfl
    exact (dss_one (ds_ret (de_fnP (ok_moved_home Z hw) (hr.mono (by decide)) (by rfl) Z.g_moved_home Z.k_moved_home Z.b_moved_home tk (da_cons (de_lc (own := [("row", 1), ("column", 2)]) (ns := [1, 2]) false rfl sc_turned_cells.nd (di_seq (de_var (pv 0))) (blkOk_by (N := N_turned_cells) (sc := defScope st_turned_cells) (by decide +kernel)) (by decide) (fun _ _ _ _ _ => (dg_tup rfl (dgs_cons (dg_name (i := 1) (pg_name (i := 1) sc_turned_cells.nd rfl (by first | exact Or.inl rfl | exact Or.inr rfl))) (dgs_cons (dg_name (i := 2) (pg_name (i := 2) sc_turned_cells.nd rfl (by first | exact Or.inl rfl | exact Or.inr rfl))) dgs_nil)))) (fun _ _ _ _ _ => dts_nil) (fun _ _ _ _ _ => (de_tup (da_cons (de_var (pv 2)) (da_cons (de_un un_neg negD (de_var (pv 1))) da_nil))))) da_nil) (len_cons len_nil))))
abbrev st_turned : Stmt := topS 18
abbrev N_turned : List Str := ["piece"]
theorem sc_turned : FnScope N_turned ["piece"] (defScope st_turned) := ⟨rfl, rfl, rfl, by decide +kernel, rfl, by decide +kernel, by decide +kernel⟩
def body_turned : SD := (sSeq (sExpr (dFnP F__check_piece (dCons (dVar 0) dNil))) (sRet (dFnP F_set_home (dCons (dFnP F_turned_cells (dCons (dVar 0) dNil)) dNil))))
def F_turned : Fn := runDef 1 body_turned
theorem ok_turned (Z : Facts K mg fa.f fd) (hw : fa.w = w) : FnOk P w K mg base (L2.CX P w) 6 (fa 11) (fd 11) ["piece"] (spD K fa 1 F_turned) :=
  def_ok (k := 5) (N := N_turned) Z.F_turned sc_turned rfl fun cdv A outer s H E hr => by
    have tk : Takes (cxOf (L2.CX P w) P w K mg base N_turned "turned" (defScope st_turned) (fa 11) cdv A outer s H E) (wDef E) := takes_of rfl rfl rfl rfl
    have po := passes_of (X := (cxOf (L2.CX P w) P w K mg base N_turned "turned" (defScope st_turned) (fa 11) cdv A outer s H E)) rfl
    exact (dss_cons (ds_expr (de_fnP (ok__check_piece Z hw) (hr.mono (by decide)) (by rfl) Z.g__check_piece Z.k__check_piece Z.b__check_piece tk (da_cons (de_var (pv 0)) da_nil) (len_cons len_nil)))
    (dss_one (ds_ret (de_fnP (ok_set_home Z hw) (hr.mono (by decide)) (by rfl) Z.g_set_home Z.k_set_home Z.b_set_home tk (da_cons (de_fnP (ok_turned_cells Z hw) (hr.mono (by decide)) (by rfl) Z.g_turned_cells Z.k_turned_cells Z.b_turned_cells tk (da_cons (de_var (pv 0)) da_nil) (len_cons len_nil)) da_nil) (len_cons len_nil)))))
abbrev st_flipped_cells : Stmt := topS 5
abbrev N_flipped_cells : List Str := ["cells", "row", "column"]
theorem sc_flipped_cells : FnScope N_flipped_cells ["cells"] (defScope st_flipped_cells) := ⟨rfl, rfl, rfl, by decide +kernel, rfl, by decide +kernel, by decide +kernel⟩
def body_flipped_cells : SD := (sRet (dFnP F_moved_home (dCons (dLc false (dSeq (dVar 0)) (tgTup 2 (tgCons (tgN 1) (tgCons (tgN 2) tgNil))) dYes (dTup (dCons (dVar 1) (dCons (dUn gNeg (dVar 2)) dNil))) [1, 2]) dNil)))
def F_flipped_cells : Fn := runDef 3 body_flipped_cells
theorem ok_flipped_cells (Z : Facts K mg fa.f fd) (hw : fa.w = w) : FnOk P w K mg base (L2.CX P w) 2 (fa 1) (fd 1) ["cells"] (spD K fa 1 F_flipped_cells) :=
  def_ok (k := 1) (N := N_flipped_cells) Z.F_flipped_cells sc_flipped_cells rfl fun cdv A outer s H E hr => by
    have tk : Takes (cxOf (L2.CX P w) P w K mg base N_flipped_cells "flipped_cells" (defScope st_flipped_cells) (fa 1) cdv A outer s H E) (wDef E) := takes_of rfl rfl rfl rfl
    have po := passes_of (X := (cxOf (L2.CX P w) P w K mg base N_flipped_cells "flipped_cells" (defScope st_flipped_cells) (fa 1) cdv A outer s H E)) rfl
    exact (dss_one (ds_ret (de_fnP (ok_moved_home Z hw) (hr.mono (by decide)) (by rfl) Z.g_moved_home Z.k_moved_home Z.b_moved_home tk (da_cons (de_lc (own := [("row", 1), ("column", 2)]) (ns := [1, 2]) false rfl sc_flipped_cells.nd (di_seq (de_var (pv 0))) (blkOk_by (N := N_flipped_cells) (sc := defScope st_flipped_cells) (by decide +kernel)) (by decide) (fun _ _ _ _ _ => (dg_tup rfl (dgs_cons (dg_name (i := 1) (pg_name (i := 1) sc_flipped_cells.nd rfl (by first | exact Or.inl rfl | exact Or.inr rfl))) (dgs_cons (dg_name (i := 2) (pg_name (i := 2) sc_flipped_cells.nd rfl (by first | exact Or.inl rfl | exact Or.inr rfl))) dgs_nil)))) (fun _ _ _ _ _ => dts_nil) (fun _ _ _ _ _ => (de_tup (da_cons (de_var (pv 1)) (da_cons (de_un un_neg negD (de_var (pv 2))) da_nil))))) da_nil) (len_cons len_nil))))
abbrev st_flipped : Stmt := topS 19
abbrev N_flipped : List Str := ["piece"]
theorem sc_flipped : FnScope N_flipped ["piece"] (defScope st_flipped) := ⟨rfl, rfl, rfl, by decide +kernel, rfl, by decide +kernel, by decide +kernel⟩
def body_flipped : SD := (sSeq (sExpr (dFnP F__check_piece (dCons (dVar 0) dNil))) (sRet (dFnP F_set_home (dCons (dFnP F_flipped_cells (dCons (dVar 0) dNil)) dNil))))
def F_flipped : Fn := runDef 1 body_flipped
theorem ok_flipped (Z : Facts K mg fa.f fd) (hw : fa.w = w) : FnOk P w K mg base (L2.CX P w) 6 (fa 12) (fd 12) ["piece"] (spD K fa 1 F_flipped) :=
  def_ok (k := 5) (N := N_flipped) Z.F_flipped sc_flipped rfl fun cdv A outer s H E hr => by
    have tk : Takes (cxOf (L2.CX P w) P w K mg base N_flipped "flipped" (defScope st_flipped) (fa 12) cdv A outer s H E) (wDef E) := takes_of rfl rfl rfl rfl
    have po := passes_of (X := (cxOf (L2.CX P w) P w K mg base N_flipped "flipped" (defScope st_flipped) (fa 12) cdv A outer s H E)) rfl
    exact (dss_cons (ds_expr (de_fnP (ok__check_piece Z hw) (hr.mono (by decide)) (by rfl) Z.g__check_piece Z.k__check_piece Z.b__check_piece tk (da_cons (de_var (pv 0)) da_nil) (len_cons len_nil)))
    (dss_one (ds_ret (de_fnP (ok_set_home Z hw) (hr.mono (by decide)) (by rfl) Z.g_set_home Z.k_set_home Z.b_set_home tk (da_cons (de_fnP (ok_flipped_cells Z hw) (hr.mono (by decide)) (by rfl) Z.g_flipped_cells Z.k_flipped_cells Z.b_flipped_cells tk (da_cons (de_var (pv 0)) da_nil) (len_cons len_nil)) da_nil) (len_cons len_nil)))))
abbrev st__four_turnings : Stmt := topS 9
abbrev N__four_turnings : List Str := ["cells", "found", "_"]
theorem sc__four_turnings : FnScope N__four_turnings ["cells"] (defScope st__four_turnings) := ⟨rfl, rfl, rfl, by decide +kernel, rfl, by decide +kernel, by decide +kernel⟩
def body__four_turnings : SD := (sSeq (sSet 1 (dLst true (dCons (dVar 0) dNil))) (sSeq (sFor (dR1 (dCons (dC (.int 3)) dNil)) (tgN 2) (sExpr (dMeth "list" gAppend (dVar 1) (dCons (dFnP F_turned_cells (dCons (dOp gIx (dVar 1) (dUn gNeg (dC (.int 1)))) dNil)) dNil)))) (sRet (dVar 1))))
def F__four_turnings : Fn := runDef 3 body__four_turnings
theorem ok__four_turnings (Z : Facts K mg fa.f fd) (hw : fa.w = w) : FnOk P w K mg base (L2.CX P w) 3 (fa 5) (fd 5) ["cells"] (spD K fa 1 F__four_turnings) :=
  def_ok (k := 2) (N := N__four_turnings) Z.F__four_turnings sc__four_turnings rfl fun cdv A outer s H E hr => by
    have tk : Takes (cxOf (L2.CX P w) P w K mg base N__four_turnings "_four_turnings" (defScope st__four_turnings) (fa 5) cdv A outer s H E) (wDef E) := takes_of rfl rfl rfl rfl
    have po := passes_of (X := (cxOf (L2.CX P w) P w K mg base N__four_turnings "_four_turnings" (defScope st__four_turnings) (fa 5) cdv A outer s H E)) rfl
    exact (dss_cons (ds_set (i := 1) sc__four_turnings.nd rfl (Or.inl rfl) (de_lst true (da_cons (de_var (pv 0)) da_nil)))
    (dss_cons (ds_for po rfl (di_r1 (by rfl) Z.n_range (da_cons de_int da_nil)) (dg_name (i := 2) (pg_name (i := 2) sc__four_turnings.nd rfl (Or.inl rfl))) (dss_one (ds_expr (de_meth PySem.F.plainAttrs_list PySem.F.slot_list_append PySem.F.type_list_append mt_append appendD (de_var (pv 1)) (da_cons (de_fnP (ok_turned_cells Z hw) (hr.mono (by decide)) (by rfl) Z.g_turned_cells Z.k_turned_cells Z.b_turned_cells tk (da_cons (de_ix (de_var (pv 1)) (de_un un_neg negD de_int) (fun _ _ => rfl)) da_nil) (len_cons len_nil)) da_nil)))))
    (dss_one (ds_ret (de_var (pv 1))))))
abbrev st_all_turnings : Stmt := topS 8
abbrev N_all_turnings : List Str := ["cells", "is_flipped", "found"]
theorem sc_all_turnings : FnScope N_all_turnings ["cells", "is_flipped"] (defScope st_all_turnings) := ⟨rfl, rfl, rfl, by decide +kernel, rfl, by decide +kernel, by decide +kernel⟩
def body_all_turnings : SD := (sSeq (sSet 2 (dFn true F__four_turnings (dCons (dFnP F_moved_home (dCons (dVar 0) dNil)) dNil))) (sSeq (sIf (dTruth (dVar 1)) (sExpr (dMeth "list" gExtend (dVar 2) (dCons (dFn true F__four_turnings (dCons (dFnP F_flipped_cells (dCons (dVar 0) dNil)) dNil)) dNil))) sNil) (sRet (dVar 2))))
def F_all_turnings : Fn := runDef 3 body_all_turnings
theorem ok_all_turnings (Z : Facts K mg fa.f fd) (hw : fa.w = w) : FnOk P w K mg base (L2.CX P w) 4 (fa 4) (fd 4) ["cells", "is_flipped"] (spD K fa 2 F_all_turnings) :=
  def_ok (k := 3) (N := N_all_turnings) Z.F_all_turnings sc_all_turnings rfl fun cdv A outer s H E hr => by
    have tk : Takes (cxOf (L2.CX P w) P w K mg base N_all_turnings "all_turnings" (defScope st_all_turnings) (fa 4) cdv A outer s H E) (wDef E) := takes_of rfl rfl rfl rfl
    have po := passes_of (X := (cxOf (L2.CX P w) P w K mg base N_all_turnings "all_turnings" (defScope st_all_turnings) (fa 4) cdv A outer s H E)) rfl
    exact (dss_cons (ds_set (i := 2) sc_all_turnings.nd rfl (Or.inl rfl) (de_fn true (ok__four_turnings Z hw) (hr.mono (by decide)) (by rfl) Z.g__four_turnings Z.k__four_turnings Z.b__four_turnings tk (da_cons (de_fnP (ok_moved_home Z hw) (hr.mono (by decide)) (by rfl) Z.g_moved_home Z.k_moved_home Z.b_moved_home tk (da_cons (de_var (pv 0)) da_nil) (len_cons len_nil)) da_nil) (len_cons len_nil)))
    (dss_cons (ds_if (dt_truth (de_var (pv 1)) (fun _ => rfl)) (dss_one (ds_expr (de_meth PySem.F.plainAttrs_list PySem.F.slot_list_extend PySem.F.type_list_extend mt_extend extendD (de_var (pv 2)) (da_cons (de_fn true (ok__four_turnings Z hw) (hr.mono (by decide)) (by rfl) Z.g__four_turnings Z.k__four_turnings Z.b__four_turnings tk (da_cons (de_fnP (ok_flipped_cells Z hw) (hr.mono (by decide)) (by rfl) Z.g_flipped_cells Z.k_flipped_cells Z.b_flipped_cells tk (da_cons (de_var (pv 0)) da_nil) (len_cons len_nil)) da_nil) (len_cons len_nil)) da_nil)))) dss_nil)
    (dss_one (ds_ret (de_var (pv 2))))))
abbrev st_forms : Stmt := topS 20
abbrev N_forms : List Str := ["piece", "is_flipped", "images"]
theorem sc_forms : FnScope N_forms ["piece", "is_flipped"] (defScope st_forms) := ⟨rfl, rfl, rfl, by decide +kernel, rfl, by decide +kernel, by decide +kernel⟩
def body_forms : SD := (sSeq (sExpr (dFnP F__check_piece (dCons (dVar 0) dNil))) (sRet (dCall gTuple (dCons (dCall (gSortB false) (dCons (dSc (dSeq (dFnP F_all_turnings (dCons (dVar 0) (dCons (dVar 1) dNil)))) (tgN 2) dYes (dFnP F_set_home (dCons (dVar 2) dNil)) [2]) dNil)) dNil))))
def F_forms : Fn := runDef 3 body_forms
theorem ok_forms (Z : Facts K mg fa.f fd) (hw : fa.w = w) : FnOk P w K mg base (L2.CX P w) 6 (fa 13) (fd 13) ["piece", "is_flipped"] (spD K fa 2 F_forms) :=
  def_ok (k := 5) (N := N_forms) Z.F_forms sc_forms rfl fun cdv A outer s H E hr => by
    have tk : Takes (cxOf (L2.CX P w) P w K mg base N_forms "forms" (defScope st_forms) (fa 13) cdv A outer s H E) (wDef E) := takes_of rfl rfl rfl rfl
    have po := passes_of (X := (cxOf (L2.CX P w) P w K mg base N_forms "forms" (defScope st_forms) (fa 13) cdv A outer s H E)) rfl
    exact (dss_cons (ds_expr (de_fnP (ok__check_piece Z hw) (hr.mono (by decide)) (by rfl) Z.g__check_piece Z.k__check_piece Z.b__check_piece tk (da_cons (de_var (pv 0)) da_nil) (len_cons len_nil)))
    (dss_one (ds_ret (de_callT call_tuple_of tupleD (by rfl) Z.n_tuple (by decide +kernel) (da_cons (de_callB (call_sortB hw rfl (hu66 hr)) (sortBD false) (by rfl) Z.n_sorted (by decide +kernel) (da_cons (de_sc (own := [("images", 2)]) (ns := [2]) hw (hu66 hr) rfl sc_forms.nd (di_seq (de_fnP (ok_all_turnings Z hw) (hr.mono (by decide)) (by rfl) Z.g_all_turnings Z.k_all_turnings Z.b_all_turnings tk (da_cons (de_var (pv 0)) (da_cons (de_var (pv 1)) da_nil)) (len_cons (len_cons len_nil)))) (blkOk_by (N := N_forms) (sc := defScope st_forms) (by decide +kernel)) (by decide) (fun _ _ _ _ _ => (dg_name (i := 2) (pg_name (i := 2) sc_forms.nd rfl (by first | exact Or.inl rfl | exact Or.inr rfl)))) (fun _ _ _ _ _ => dts_nil) (fun _ _ _ _ _ => (de_fnP (ok_set_home Z hw) (hr.mono (by decide)) (by rfl) Z.g_set_home Z.k_set_home Z.b_set_home takes00 (da_cons (de_var (pv 2)) da_nil) (len_cons len_nil)))) da_nil)) da_nil)))))
abbrev st_least_form : Stmt := topS 21
abbrev N_least_form : List Str := ["piece"]
theorem sc_least_form : FnScope N_least_form ["piece"] (defScope st_least_form) := ⟨rfl, rfl, rfl, by decide +kernel, rfl, by decide +kernel, by decide +kernel⟩
def body_least_form : SD := (sRet (dOp gIx (dFnP F_forms (dCons (dVar 0) (dCons (dC (.bl true)) dNil))) (dC (.int 0))))
def F_least_form : Fn := runDef 1 body_least_form
theorem ok_least_form (Z : Facts K mg fa.f fd) (hw : fa.w = w) : FnOk P w K mg base (L2.CX P w) 7 (fa 14) (fd 14) ["piece"] (spD K fa 1 F_least_form) :=
  def_ok (k := 6) (N := N_least_form) Z.F_least_form sc_least_form rfl fun cdv A outer s H E hr => by
    have tk : Takes (cxOf (L2.CX P w) P w K mg base N_least_form "least_form" (defScope st_least_form) (fa 14) cdv A outer s H E) (wDef E) := takes_of rfl rfl rfl rfl
    have po := passes_of (X := (cxOf (L2.CX P w) P w K mg base N_least_form "least_form" (defScope st_least_form) (fa 14) cdv A outer s H E)) rfl
    exact (dss_one (ds_ret (de_ix (de_fnP (ok_forms Z hw) (hr.mono (by decide)) (by rfl) Z.g_forms Z.k_forms Z.b_forms tk (da_cons (de_var (pv 0)) (da_cons de_bl da_nil)) (len_cons (len_cons len_nil))) de_int (fun _ _ => rfl))))
abbrev st__one_cell_more : Stmt := topS 27
abbrev N__one_cell_more : List Str := ["pieces", "found", "piece", "cell", "added"]
theorem sc__one_cell_more : FnScope N__one_cell_more ["pieces"] (defScope st__one_cell_more) := ⟨rfl, rfl, rfl, by decide +kernel, rfl, by decide +kernel, by decide +kernel⟩
def body__one_cell_more : SD := (sSeq (sSet 1 (dCall gSetOf dNil)) (sSeq (sFor (dSeq (dVar 0)) (tgN 2) (sFor (dSeq (dVar 2)) (tgN 3) (sFor (dSeq (dFnP F__cells_beside (dCons (dVar 3) dNil))) (tgN 4) (sIf (dBool (dOp (gIn true) (dVar 4) (dVar 2))) (sExpr (dSAdd (dVar 1) (dCons (dFnP F_least_form (dCons (dFnP F_set_home (dCons (dLst false (dStr (dVar 2) (dCons (dVar 4) dNil))) dNil)) dNil)) dNil))) sNil)))) (sRet (dCall (gSortB false) (dCons (dVar 1) dNil)))))
def F__one_cell_more : Fn := runDef 5 body__one_cell_more
theorem ok__one_cell_more (Z : Facts K mg fa.f fd) (hw : fa.w = w) : FnOk P w K mg base (L2.CX P w) 8 (fa 20) (fd 20) ["pieces"] (spD K fa 1 F__one_cell_more) :=
  def_ok (k := 7) (N := N__one_cell_more) Z.F__one_cell_more sc__one_cell_more rfl fun cdv A outer s H E hr => by
    have tk : Takes (cxOf (L2.CX P w) P w K mg base N__one_cell_more "_one_cell_more" (defScope st__one_cell_more) (fa 20) cdv A outer s H E) (wDef E) := takes_of rfl rfl rfl rfl
    have po := passes_of (X := (cxOf (L2.CX P w) P w K mg base N__one_cell_more "_one_cell_more" (defScope st__one_cell_more) (fa 20) cdv A outer s H E)) rfl
    exact (dss_cons (ds_set (i := 1) sc__one_cell_more.nd rfl (Or.inl rfl) (de_callT0 (call_setA hw rfl (hu66 hr)) setD (by rfl) Z.n_set (by decide +kernel)))
    (dss_cons (ds_for po rfl (di_seq (de_var (pv 0))) (dg_name (i := 2) (pg_name (i := 2) sc__one_cell_more.nd rfl (Or.inl rfl))) (dss_one (ds_for po rfl (di_seq (de_var (pv 2))) (dg_name (i := 3) (pg_name (i := 3) sc__one_cell_more.nd rfl (Or.inl rfl))) (dss_one (ds_for po rfl (di_seq (de_fnP (ok__cells_beside Z hw) (hr.mono (by decide)) (by rfl) Z.g__cells_beside Z.k__cells_beside Z.b__cells_beside tk (da_cons (de_var (pv 3)) da_nil) (len_cons len_nil))) (dg_name (i := 4) (pg_name (i := 4) sc__one_cell_more.nd rfl (Or.inl rfl))) (dss_one (ds_if (dt_cmp (op_notInA (hu65 hr)) (inD true) (de_var (pv 4)) (de_var (pv 2)) (by rfl)) (dss_one (ds_expr (de_sadd hw (hu66 hr) (de_var (pv 1)) (da_cons (de_fnP (ok_least_form Z hw) (hr.mono (by decide)) (by rfl) Z.g_least_form Z.k_least_form Z.b_least_form tk (da_cons (de_fnP (ok_set_home Z hw) (hr.mono (by decide)) (by rfl) Z.g_set_home Z.k_set_home Z.b_set_home tk (da_cons (de_lst false (da_star (de_var (pv 2)) (da_cons (de_var (pv 4)) da_nil))) da_nil) (len_cons len_nil)) da_nil) (len_cons len_nil)) da_nil)))) dss_nil)))))))
    (dss_one (ds_ret (de_callB (call_sortB hw rfl (hu66 hr)) (sortBD false) (by rfl) Z.n_sorted (by decide +kernel) (da_cons (de_var (pv 1)) da_nil))))))
abbrev st_is_between : Stmt := topS 12
abbrev N_is_between : List Str := ["value", "least", "most"]
theorem sc_is_between : FnScope N_is_between ["value", "least", "most"] (defScope st_is_between) := ⟨rfl, rfl, rfl, by decide +kernel, rfl, by decide +kernel, by decide +kernel⟩
def body_is_between : SD := (sRet (dAndV (dFnP F_is_an_integer (dCons (dVar 0) dNil)) (dChain gLe gLe (dVar 1) (dVar 0) (dVar 2))))
def F_is_between : Fn := runDef 3 body_is_between
theorem ok_is_between (Z : Facts K mg fa.f fd) (hw : fa.w = w) : FnOk P w K mg base (L2.CX P w) 2 (fa 7) (fd 7) ["value", "least", "most"] (spD K fa 3 F_is_between) :=
  def_ok (k := 1) (N := N_is_between) Z.F_is_between sc_is_between rfl fun cdv A outer s H E hr => by
    have tk : Takes (cxOf (L2.CX P w) P w K mg base N_is_between "is_between" (defScope st_is_between) (fa 7) cdv A outer s H E) (wDef E) := takes_of rfl rfl rfl rfl
    have po := passes_of (X := (cxOf (L2.CX P w) P w K mg base N_is_between "is_between" (defScope st_is_between) (fa 7) cdv A outer s H E)) rfl
    exact (dss_one (ds_ret (de_and (de_fnP (ok_is_an_integer Z hw) (hr.mono (by decide)) (by rfl) Z.g_is_an_integer Z.k_is_an_integer Z.b_is_an_integer tk (da_cons (de_var (pv 0)) da_nil) (len_cons len_nil)) (de_b1 (de_chain op_le op_le leD leD (de_var (pv 1)) (de_var (pv 0)) (de_var (pv 2)))))))
abbrev st_pieces_of : Stmt := topS 22
abbrev N_pieces_of : List Str := ["many", "found", "_"]
theorem sc_pieces_of : FnScope N_pieces_of ["many"] (defScope st_pieces_of) := ⟨rfl, rfl, rfl, by decide +kernel, rfl, by decide +kernel, by decide +kernel⟩
def body_pieces_of : SD := (sSeq (sIf (dNotT (dTruth (dFnP F_is_between (dCons (dVar 0) (dCons (dC (.int 1)) (dCons (dC (.int 5)) dNil)))))) (sRaise 45) sNil) (sSeq (sSet 1 (dLst false (dCons (dTup (dCons (dTup (dCons (dC (.int 0)) (dCons (dC (.int 0)) dNil))) dNil)) dNil))) (sSeq (sFor (dR1 (dCons (dOp gSub (dVar 0) (dC (.int 1))) dNil)) (tgN 2) (sSet 1 (dFnP F__one_cell_more (dCons (dVar 1) dNil)))) (sRet (dCall gTuple (dCons (dVar 1) dNil))))))
def F_pieces_of : Fn := runDef 3 body_pieces_of
theorem ok_pieces_of (Z : Facts K mg fa.f fd) (hw : fa.w = w) : FnOk P w K mg base (L2.CX P w) 9 (fa 15) (fd 15) ["many"] (spD K fa 1 F_pieces_of) :=
  def_ok (k := 8) (N := N_pieces_of) Z.F_pieces_of sc_pieces_of rfl fun cdv A outer s H E hr => by
    have tk : Takes (cxOf (L2.CX P w) P w K mg base N_pieces_of "pieces_of" (defScope st_pieces_of) (fa 15) cdv A outer s H E) (wDef E) := takes_of rfl rfl rfl rfl
    have po := passes_of (X := (cxOf (L2.CX P w) P w K mg base N_pieces_of "pieces_of" (defScope st_pieces_of) (fa 15) cdv A outer s H E)) rfl
    exact (dss_cons (ds_if (dt_not (dt_truth (de_fnP (ok_is_between Z hw) (hr.mono (by decide)) (by rfl) Z.g_is_between Z.k_is_between Z.b_is_between tk (da_cons (de_var (pv 0)) (da_cons de_int (da_cons (de_gintE (by rfl) Z.c_MOST_CELLS) da_nil))) (len_cons (len_cons (len_cons len_nil)))) (fun _ => rfl))) (dss_one (ds_raise0 (c := 45) rfl tk (pmk_own0 PySem.F.excBase_ValueError Z.x_BadPiece Z.g_BadPiece Z.k_BadPiece (raises_own Z.s_BadPiece Z.t_BadPiece) (by exact rfl)))) dss_nil)
    (dss_cons (ds_set (i := 1) sc_pieces_of.nd rfl (Or.inl rfl) (de_lst false (da_cons (de_tup (da_cons (de_tup (da_cons de_int (da_cons de_int da_nil))) da_nil)) da_nil)))
    (dss_cons (ds_for po rfl (di_r1 (by rfl) Z.n_range (da_cons (de_op op_sub subD (de_var (pv 0)) de_int) da_nil)) (dg_name (i := 2) (pg_name (i := 2) sc_pieces_of.nd rfl (Or.inl rfl))) (dss_one (ds_set (i := 1) sc_pieces_of.nd rfl (Or.inl rfl) (de_fnP (ok__one_cell_more Z hw) (hr.mono (by decide)) (by rfl) Z.g__one_cell_more Z.k__one_cell_more Z.b__one_cell_more tk (da_cons (de_var (pv 1)) da_nil) (len_cons len_nil)))))
    (dss_one (ds_ret (de_callT call_tuple_of tupleD (by rfl) Z.n_tuple (by decide +kernel) (da_cons (de_var (pv 1)) da_nil)))))))
abbrev st__drawn_row : Stmt := topS 28
abbrev N__drawn_row : List Str := ["piece", "row", "wide", "column"]
theorem sc__drawn_row : FnScope N__drawn_row ["piece", "row", "wide"] (defScope st__drawn_row) := ⟨rfl, rfl, rfl, by decide +kernel, rfl, by decide +kernel, by decide +kernel⟩
def body__drawn_row : SD := (sRet (dMeth "str" gJoin (dC (.str "")) (dCons (dLc false (dR1 (dCons (dVar 2) dNil)) (tgN 3) dYes (dIf (dBool (dOp (gIn false) (dTup (dCons (dVar 1) (dCons (dVar 3) dNil))) (dVar 0))) (dC (.str "#")) (dC (.str "-"))) [3]) dNil)))
def F__drawn_row : Fn := runDef 4 body__drawn_row
theorem ok__drawn_row (Z : Facts K mg fa.f fd) (hw : fa.w = w) : FnOk P w K mg base (L2.CX P w) 1 (fa 21) (fd 21) ["piece", "row", "wide"] (spD K fa 3 F__drawn_row) :=
  def_ok (k := 0) (N := N__drawn_row) Z.F__drawn_row sc__drawn_row rfl fun cdv A outer s H E hr => by
    have tk : Takes (cxOf (L2.CX P w) P w K mg base N__drawn_row "_drawn_row" (defScope st__drawn_row) (fa 21) cdv A outer s H E) (wDef E) := takes_of rfl rfl rfl rfl
    have po := passes_of (X := (cxOf (L2.CX P w) P w K mg base N__drawn_row "_drawn_row" (defScope st__drawn_row) (fa 21) cdv A outer s H E)) rfl
    exact (dss_one (ds_ret (de_meth PySem.F.plainAttrs_str PySem.F.slot_str_join PySem.F.type_str_join mt_join joinD de_str (da_cons (de_lc (own := [("column", 3)]) (ns := [3]) false rfl sc__drawn_row.nd (di_r1 (by rfl) Z.n_range (da_cons (de_var (pv 2)) da_nil)) (blkOk_by (N := N__drawn_row) (sc := defScope st__drawn_row) (by decide +kernel)) (by decide) (fun _ _ _ _ _ => (dg_name (i := 3) (pg_name (i := 3) sc__drawn_row.nd rfl (by first | exact Or.inl rfl | exact Or.inr rfl)))) (fun _ _ _ _ _ => dts_nil) (fun _ _ _ _ _ => (de_if (dt_cmp (op_inA (hu65 hr)) (inD false) (de_tup (da_cons (de_var (pv 1)) (da_cons (de_var (pv 3)) da_nil))) (de_var (pv 0)) (by rfl)) de_str de_str))) da_nil))))
abbrev st_drawn : Stmt := topS 23
abbrev N_drawn : List Str := ["piece", "high", "wide", "row", "column"]
theorem sc_drawn : FnScope N_drawn ["piece"] (defScope st_drawn) := ⟨rfl, rfl, rfl, by decide +kernel, rfl, by decide +kernel, by decide +kernel⟩
def body_drawn : SD := (sSeq (sExpr (dFnP F__check_piece (dCons (dVar 0) dNil))) (sSeq (sSet 1 (dOp (gAdd false) (dCall (gInt2 (fun i j => if j > i then j else i) (gInts true maxI)) (dCons (dLc false (dSeq (dVar 0)) (tgTup 2 (tgCons (tgN 3) (tgCons (tgN 4) tgNil))) dYes (dVar 3) [3, 4]) dNil)) (dC (.int 1)))) (sSeq (sSet 2 (dOp (gAdd false) (dCall (gInt2 (fun i j => if j > i then j else i) (gInts true maxI)) (dCons (dLc false (dSeq (dVar 0)) (tgTup 2 (tgCons (tgN 3) (tgCons (tgN 4) tgNil))) dYes (dVar 4) [3, 4]) dNil)) (dC (.int 1)))) (sRet (dCall gTuple (dCons (dLc false (dR1 (dCons (dVar 1) dNil)) (tgN 3) dYes (dFnP F__drawn_row (dCons (dVar 0) (dCons (dVar 3) (dCons (dVar 2) dNil)))) [3]) dNil))))))
def F_drawn : Fn := runDef 5 body_drawn
theorem ok_drawn (Z : Facts K mg fa.f fd) (hw : fa.w = w) : FnOk P w K mg base (L2.CX P w) 6 (fa 16) (fd 16) ["piece"] (spD K fa 1 F_drawn) :=
  def_ok (k := 5) (N := N_drawn) Z.F_drawn sc_drawn rfl fun cdv A outer s H E hr => by
    have tk : Takes (cxOf (L2.CX P w) P w K mg base N_drawn "drawn" (defScope st_drawn) (fa 16) cdv A outer s H E) (wDef E) := takes_of rfl rfl rfl rfl
    have po := passes_of (X := (cxOf (L2.CX P w) P w K mg base N_drawn "drawn" (defScope st_drawn) (fa 16) cdv A outer s H E)) rfl
    exact (dss_cons (ds_expr (de_fnP (ok__check_piece Z hw) (hr.mono (by decide)) (by rfl) Z.g__check_piece Z.k__check_piece Z.b__check_piece tk (da_cons (de_var (pv 0)) da_nil) (len_cons len_nil)))
    (dss_cons (ds_set (i := 1) sc_drawn.nd rfl (Or.inl rfl) (de_op op_addA (addD false) (de_callB (CallR.or (call_max2 rfl) (cr_max rfl)) (int2D maxLD) (by rfl) Z.n_max (by decide +kernel) (da_cons (de_lc (own := [("row", 3), ("column", 4)]) (ns := [3, 4]) false rfl sc_drawn.nd (di_seq (de_var (pv 0))) (blkOk_by (N := N_drawn) (sc := defScope st_drawn) (by decide +kernel)) (by decide) (fun _ _ _ _ _ => (dg_tup rfl (dgs_cons (dg_name (i := 3) (pg_name (i := 3) sc_drawn.nd rfl (by first | exact Or.inl rfl | exact Or.inr rfl))) (dgs_cons (dg_name (i := 4) (pg_name (i := 4) sc_drawn.nd rfl (by first | exact Or.inl rfl | exact Or.inr rfl))) dgs_nil)))) (fun _ _ _ _ _ => dts_nil) (fun _ _ _ _ _ => (de_var (pv 3)))) da_nil)) de_int))
    (dss_cons (ds_set (i := 2) sc_drawn.nd rfl (Or.inr rfl) (de_op op_addA (addD false) (de_callB (CallR.or (call_max2 rfl) (cr_max rfl)) (int2D maxLD) (by rfl) Z.n_max (by decide +kernel) (da_cons (de_lc (own := [("row", 3), ("column", 4)]) (ns := [3, 4]) false rfl sc_drawn.nd (di_seq (de_var (pv 0))) (blkOk_by (N := N_drawn) (sc := defScope st_drawn) (by decide +kernel)) (by decide) (fun _ _ _ _ _ => (dg_tup rfl (dgs_cons (dg_name (i := 3) (pg_name (i := 3) sc_drawn.nd rfl (by first | exact Or.inl rfl | exact Or.inr rfl))) (dgs_cons (dg_name (i := 4) (pg_name (i := 4) sc_drawn.nd rfl (by first | exact Or.inl rfl | exact Or.inr rfl))) dgs_nil)))) (fun _ _ _ _ _ => dts_nil) (fun _ _ _ _ _ => (de_var (pv 4)))) da_nil)) de_int))
    (dss_one (ds_ret (de_callT call_tuple_of tupleD (by rfl) Z.n_tuple (by decide +kernel) (da_cons (de_lc (own := [("row", 3)]) (ns := [3]) false rfl sc_drawn.nd (di_r1 (by rfl) Z.n_range (da_cons (de_var (pv 1)) da_nil)) (blkOk_by (N := N_drawn) (sc := defScope st_drawn) (by decide +kernel)) (by decide) (fun _ _ _ _ _ => (dg_name (i := 3) (pg_name (i := 3) sc_drawn.nd rfl (by first | exact Or.inl rfl | exact Or.inr rfl)))) (fun _ _ _ _ _ => dts_nil) (fun _ _ _ _ _ => (de_fnP (ok__drawn_row Z hw) (hr.mono (by decide)) (by rfl) Z.g__drawn_row Z.k__drawn_row Z.b__drawn_row takes00 (da_cons (de_var (pv 0)) (da_cons (de_var (pv 3)) (da_cons (de_var (pv 2)) da_nil))) (len_cons (len_cons (len_cons len_nil)))))) da_nil)))))))
def tab_1 : Nat → Option Fn := fun j => if j = 11 then some F_turned else if j = 12 then some F_flipped else if j = 14 then some F_least_form else if j = 15 then some F_pieces_of else if j = 16 then some F_drawn else none
theorem ok_tab_1 (Z : Facts K mg fa.f fd) (hw : fa.w = w) : Tab P w K mg base fa 9 1 tab_1 := ⟨fun i F e => by
  unfold tab_1 at e
  by_cases h11 : i = 11
  · subst h11
    rw [if_pos rfl] at e
    cases e
    exact ⟨_, _, (ok_turned Z hw).mono (by decide), Z.k_turned, Z.b_turned⟩
  rw [if_neg h11] at e
  by_cases h12 : i = 12
  · subst h12
    rw [if_pos rfl] at e
    cases e
    exact ⟨_, _, (ok_flipped Z hw).mono (by decide), Z.k_flipped, Z.b_flipped⟩
  rw [if_neg h12] at e
  by_cases h14 : i = 14
  · subst h14
    rw [if_pos rfl] at e
    cases e
    exact ⟨_, _, (ok_least_form Z hw).mono (by decide), Z.k_least_form, Z.b_least_form⟩
  rw [if_neg h14] at e
  by_cases h15 : i = 15
  · subst h15
    rw [if_pos rfl] at e
    cases e
    exact ⟨_, _, (ok_pieces_of Z hw).mono (by decide), Z.k_pieces_of, Z.b_pieces_of⟩
  rw [if_neg h15] at e
  by_cases h16 : i = 16
  · subst h16
    rw [if_pos rfl] at e
    cases e
    exact ⟨_, _, (ok_drawn Z hw).mono (by decide), Z.k_drawn, Z.b_drawn⟩
  rw [if_neg h16] at e
  cases e⟩
abbrev st__law_refused : Stmt := topS 50
abbrev N__law_refused : List Str := ["ask", "value"]
theorem sc__law_refused : FnScope N__law_refused ["ask", "value"] (defScope st__law_refused) := ⟨rfl, rfl, rfl, by decide +kernel, rfl, by decide +kernel, by decide +kernel⟩
def body__law_refused (L : Option Fn) : SD := (sSeq (sTry ex_BadPiece (sExpr (dLocL false 0 tab_1 L (dCons (dVar 1) dNil))) (sRet (dC (.bl true)))) (sRet (dC (.bl false))))
def FL__law_refused (L : Option Fn) : Fn := runDef 2 (body__law_refused L)
def F__law_refused : Fn := FL__law_refused none
theorem okL__law_refused (Z : Facts K mg fa.f fd) (hw : fa.w = w) : GFn P w K mg base fa 10 7 1 2 (fa 42) (fd 42) ["ask", "value"] FL__law_refused :=
  def_okL (k := 9) (N := N__law_refused) Z.F__law_refused sc__law_refused rfl fun L cdv A outer s H E hr LI => by
    have tk : Takes (cxOf (L2.CX P w) P w K mg base N__law_refused "_law_refused" (defScope st__law_refused) (fa 42) cdv A outer s H E) (wDef E) := takes_of rfl rfl rfl rfl
    have po := passes_of (X := (cxOf (L2.CX P w) P w K mg base N__law_refused "_law_refused" (defScope st__law_refused) (fa 42) cdv A outer s H E)) rfl
    exact (dss_cons (ds_try (cv := .ref (fa 45)) (ex := ex_BadPiece) rfl rfl ⟨by rfl, by decide, .inl Z.g_BadPiece⟩ tk (he_BadPiece Z) (fun _ _ _ tk1 po1 => (dss_one (ds_expr (de_locL false (ok_tab_1 Z hw) LI (hr.mono (by decide)) (hr.mono (by decide)) (by rfl) (by first | exact Or.inl rfl | exact Or.inr (Or.inl rfl) | exact Or.inr (Or.inr rfl)) tk1 (da_cons (de_var (pv 1)) da_nil) (len_cons len_nil))))) (fun _ _ => (dss_one (ds_ret de_bl))))
    (dss_one (ds_ret de_bl)))
theorem ok__law_refused (Z : Facts K mg fa.f fd) (hw : fa.w = w) : FnOk P w K mg base (L2.CX P w) 10 (fa 42) (fd 42) ["ask", "value"] (spD K fa 2 F__law_refused) := (okL__law_refused Z hw).fnOk rfl
abbrev st_law : Stmt := topS 51
abbrev N_law : List Str := ["script", "row", "piece", "k", "bent", "value", "good", "is_flipped", "high", "wide", "many", "one", "j", "ask", "r", "c"]
theorem sc_law : FnScope N_law ["script"] (defScope st_law) := ⟨rfl, rfl, rfl, by decide +kernel, rfl, by decide +kernel, by decide +kernel⟩
def p0_law : SD := (sSet 1 (dLst true (dCons (dVar 0) (dCons (dC (.int 0)) (dCons (dC (.int 17000)) (dCons (dC (.int 0)) dNil))))))
def p1_law : SD := (sSet 2 (dFn false F__law_grown (dCons (dVar 1) (dCons (dC (.int 5)) dNil))))
def p2_law : SD := (sSet 3 (dFn false F__law_taken (dCons (dVar 1) (dCons (dCall gLen (dCons (dVar 2) dNil)) dNil))))
def p3_law : SD := (sSet 4 (dLst false (dCons (dVar 2) (dCons (dOp (gAdd false) (dSl false (dVar 2) none (some (dVar 3))) (dSl false (dVar 2) (some (dOp (gAdd false) (dVar 3) (dC (.int 1)))) none)) (dCons (dUn gRevT (dVar 2)) (dCons (dCall (gList false) (dCons (dVar 2) dNil)) (dCons (dCall gTuple (dCons (dLc false (dSeq (dVar 2)) (tgN 11) dYes (dTup (dCons (dOp (gAdd false) (dOp gIx (dVar 11) (dC (.int 0))) (dC (.int 1))) (dCons (dOp gIx (dVar 11) (dC (.int 1))) dNil))) [11]) dNil)) (dCons (dOp (gAdd false) (dVar 2) (dTup (dCons (dTup (dCons (dOp (gAdd false) (dOp gIx (dOp gIx (dVar 2) (dUn gNeg (dC (.int 1)))) (dC (.int 0))) (dC (.int 1))) (dCons (dOp gIx (dOp gIx (dVar 2) (dUn gNeg (dC (.int 1)))) (dC (.int 1))) dNil))) dNil))) dNil))))))))
def p4_law : SD := (sSet 4 (dOp (gAdd false) (dVar 4) (dLst false (dCons (dOp (gAdd false) (dVar 2) (dTup (dCons (dOp gIx (dVar 2) (dUn gNeg (dC (.int 1)))) dNil))) (dCons (dTup dNil) (dCons (dC .non) (dCons (dC (.int 3)) (dCons (dTup (dCons (dTup (dCons (dC (.int 0)) (dCons (dC (.int 0)) dNil))) (dCons (dTup (dCons (dC (.int 0)) (dCons (dC (.int 2)) dNil))) dNil))) (dCons (dTup (dCons (dTup (dCons (dC (.int 0)) (dCons (dC (.int 0)) dNil))) (dCons (dTup (dCons (dC (.int 1)) (dCons (dC (.int 1)) dNil))) dNil))) (dCons (dTup (dCons (dTup (dCons (dC (.int 0)) (dCons (dC (.bl false)) dNil))) dNil)) (dCons (dTup (dCons (dTup (dCons (dC (.int 0)) (dCons (dC (.int 0)) (dCons (dC (.int 0)) dNil)))) dNil)) (dCons (dCall gTuple (dCons (dLc false (dR1 (dCons (dC (.int 6)) dNil)) (tgN 12) dYes (dTup (dCons (dC (.int 0)) (dCons (dVar 12) dNil))) [12]) dNil)) (dCons (dC (.str "#")) dNil)))))))))))))
def p5_law : SD := (sSet 6 (dFnP F__law_is_piece (dCons (dVar 5) dNil)))
def p6_law : SD := (sRet (dC (.bl false)))
def p7_law : SD := (sIf (dNotT (dTruth (dFnP (F__law_alike 8) (dCons (dFnP F_is_piece (dCons (dVar 5) dNil)) (dCons (dVar 6) dNil))))) p6_law sNil)
def p8_law : SD := (sRet (dC (.bl false)))
def p9_law : SD := (sIf (dAndT (dNotT (dTruth (dVar 6))) (dBool (dOp (gEq true) (dLc false (dSeq (dLst false (dCons (dC (.fn 11)) (dCons (dC (.fn 12)) (dCons (dC (.fn 14)) (dCons (dC (.fn 16)) dNil)))))) (tgN 13) (dNotT (dTruth (dFnP F__law_refused (dCons (dVar 13) (dCons (dVar 5) dNil))))) (dVar 13) [13]) (dLst false dNil)))) p8_law sNil)
def p10_law : SD := (sRet (dC (.bl false)))
def p11_law : SD := (sIf (dAndT (dNotT (dTruth (dVar 6))) (dNotT (dTruth (dLamCallP 0 "law.<locals>.<lambda>" FL__law_refused (fun _ => runExp 1 (dFnP F_forms (dCons (dVar 0) (dCons (dC (.bl true)) dNil)))) (dCons (dVar 5) dNil))))) p10_law sNil)
def p12_law : SD := (sFor (dSeq (dVar 4)) (tgN 5) (sSeq p5_law (sSeq p7_law (sSeq p9_law p11_law))))
def p13_law : SD := (sRet (dC (.bl false)))
def p14_law : SD := (sIf (dOrT (dNotT (dTruth (dFnP (F__law_alike 8) (dCons (dFnP F_turned (dCons (dVar 2) dNil)) (dCons (dFnP F__law_settle (dCons (dLc false (dSeq (dVar 2)) (tgN 11) dYes (dTup (dCons (dOp gIx (dVar 11) (dC (.int 1))) (dCons (dOp gSub (dC (.int 0)) (dOp gIx (dVar 11) (dC (.int 0)))) dNil))) [11]) dNil)) dNil))))) (dNotT (dTruth (dFnP (F__law_alike 8) (dCons (dFnP F_flipped (dCons (dVar 2) dNil)) (dCons (dFnP F__law_settle (dCons (dLc false (dSeq (dVar 2)) (tgN 11) dYes (dTup (dCons (dOp gIx (dVar 11) (dC (.int 0))) (dCons (dOp gSub (dC (.int 0)) (dOp gIx (dVar 11) (dC (.int 1)))) dNil))) [11]) dNil)) dNil)))))) p13_law sNil)
def p15_law : SD := (sRet (dC (.bl false)))
def p16_law : SD := (sIf (dNotT (dTruth (dFnP (F__law_alike 8) (dCons (dFnP F_forms (dCons (dVar 2) (dCons (dVar 7) dNil))) (dCons (dCall gTuple (dCons (dFnP F__law_forms (dCons (dVar 2) (dCons (dVar 7) dNil))) dNil)) dNil))))) p15_law sNil)
def p17_law : SD := (sFor (dSeq (dLst false (dCons (dC (.bl true)) (dCons (dC (.bl false)) dNil)))) (tgN 7) p16_law)
def p18_law : SD := (sRet (dC (.bl false)))
def p19_law : SD := (sIf (dNotT (dTruth (dFnP (F__law_alike 8) (dCons (dFnP F_least_form (dCons (dVar 2) dNil)) (dCons (dOp gIx (dFnP F__law_forms (dCons (dVar 2) (dCons (dC (.bl true)) dNil))) (dC (.int 0))) dNil))))) p18_law sNil)
def p20_law : SD := (sTups 2 (tgCons (tgN 8) (tgCons (tgN 9) tgNil)) (dCons (dOp (gAdd false) (dCall (gInt2 (fun i j => if j > i then j else i) (gInts true maxI)) (dCons (dLc false (dSeq (dVar 2)) (tgN 11) dYes (dOp gIx (dVar 11) (dC (.int 0))) [11]) dNil)) (dC (.int 1))) (dCons (dOp (gAdd false) (dCall (gInt2 (fun i j => if j > i then j else i) (gInts true maxI)) (dCons (dLc false (dSeq (dVar 2)) (tgN 11) dYes (dOp gIx (dVar 11) (dC (.int 1))) [11]) dNil)) (dC (.int 1))) dNil)))
def p21_law : SD := (sRet (dC (.bl false)))
def p22_law : SD := (sIf (dNotT (dTruth (dFnP (F__law_alike 8) (dCons (dFnP F_drawn (dCons (dVar 2) dNil)) (dCons (dCall gTuple (dCons (dLc false (dR1 (dCons (dVar 8) dNil)) (tgN 14) dYes (dMeth "str" gJoin (dC (.str "")) (dCons (dLc false (dR1 (dCons (dVar 9) dNil)) (tgN 15) dYes (dIf (dBool (dOp (gIn false) (dTup (dCons (dVar 14) (dCons (dVar 15) dNil))) (dVar 2))) (dC (.str "#")) (dC (.str "-"))) [15]) dNil)) [14]) dNil)) dNil))))) p21_law sNil)
def p23_law : SD := (sSet 10 (dOp (gAdd false) (dC (.int 1)) (dFn false F__law_taken (dCons (dVar 1) (dCons (dC (.int 5)) dNil)))))
def p24_law : SD := (sRet (dC (.bl false)))
def p25_law : SD := (sIf (dNotT (dTruth (dFnP (F__law_alike 8) (dCons (dFnP F_pieces_of (dCons (dVar 10) dNil)) (dCons (dCall gTuple (dCons (dFnP F__law_all_pieces (dCons (dVar 10) dNil)) dNil)) dNil))))) p24_law sNil)
def p26_law : SD := (sRet (dOp (gEq false) (dLc false (dSeq (dLst false (dCons (dC (.int 0)) (dCons (dC (.int 6)) (dCons (dC .non) (dCons (dC (.bl true)) (dCons (dC (.str "2")) (dCons (dOp gSub (dC (.int 0)) (dC (.int 1))) dNil)))))))) (tgN 5) (dNotT (dTruth (dFnP F__law_refused (dCons (dC (.fn 15)) (dCons (dVar 5) dNil))))) (dVar 5) [5]) (dLst false dNil)))
def body_law : SD := (sSeq p0_law (sSeq p1_law (sSeq p2_law (sSeq p3_law (sSeq p4_law (sSeq p12_law (sSeq p14_law (sSeq p17_law (sSeq p19_law (sSeq p20_law (sSeq p22_law (sSeq p23_law (sSeq p25_law p26_law)))))))))))))
def F_law : Fn := runDef 16 body_law
theorem ok_law (Z : Facts K mg fa.f fd) (hw : fa.w = w) (hl0 : fa.lam = none) {cl : Addr} (FC : FunC K "law" "law" (topS 51) (fa 43) cl (fd 43)) (TB : LamX.TabB base mg cl fa.P) : FnOk P w K mg base (L2.CX P w) 11 (fa 43) (fd 43) ["script"] (spD K fa 1 F_law) :=
  def_okC (k := 10) (N := N_law) FC sc_law rfl fun A outer s H E hr => by
    have tk : Takes (cxOf (L2.CX P w) P w K mg base N_law "law" (defScope st_law) (fa 43) (.ref cl) A outer s H E) (wDef E) := takes_of rfl rfl rfl rfl
    have po := passes_of (X := (cxOf (L2.CX P w) P w K mg base N_law "law" (defScope st_law) (fa 43) (.ref cl) A outer s H E)) rfl
    exact (dss_cons (ds_set (i := 1) sc_law.nd rfl (Or.inl rfl) (de_lst true (da_cons (de_var (pv 0)) (da_cons de_int (da_cons de_int (da_cons de_int da_nil))))))
    (dss_cons (ds_set (i := 2) sc_law.nd rfl (Or.inr rfl) (de_fn false (ok__law_grown Z hw) (hr.mono (by decide)) (by rfl) Z.g__law_grown Z.k__law_grown Z.b__law_grown tk (da_cons (de_var (pv 1)) (da_cons de_int da_nil)) (len_cons (len_cons len_nil))))
    (dss_cons (ds_set (i := 3) sc_law.nd rfl (Or.inl rfl) (de_fn false (ok__law_taken Z hw) (hr.mono (by decide)) (by rfl) Z.g__law_taken Z.k__law_taken Z.b__law_taken tk (da_cons (de_var (pv 1)) (da_cons (de_callB call_len lenD (by rfl) Z.n_len (by decide +kernel) (da_cons (de_var (pv 2)) da_nil)) da_nil)) (len_cons (len_cons len_nil))))
    (dss_cons (ds_set (i := 4) sc_law.nd rfl (Or.inl rfl) (de_lst false (da_cons (de_var (pv 2)) (da_cons (de_op op_addA (addD false) (de_sl false (de_var (pv 2)) dp_none (dp_some (de_var (pv 3)))) (de_sl false (de_var (pv 2)) (dp_some (de_op op_addA (addD false) (de_var (pv 3)) de_int)) dp_none)) (da_cons (de_revT (de_var (pv 2))) (da_cons (de_callT call_list_of (listD false) (by rfl) Z.n_list (by decide +kernel) (da_cons (de_var (pv 2)) da_nil)) (da_cons (de_callT call_tuple_of tupleD (by rfl) Z.n_tuple (by decide +kernel) (da_cons (de_lc (own := [("one", 11)]) (ns := [11]) false rfl sc_law.nd (di_seq (de_var (pv 2))) (blkOk_by (N := N_law) (sc := defScope st_law) (by decide +kernel)) (by decide) (fun _ _ _ _ _ => (dg_name (i := 11) (pg_name (i := 11) sc_law.nd rfl (by first | exact Or.inl rfl | exact Or.inr rfl)))) (fun _ _ _ _ _ => dts_nil) (fun _ _ _ _ _ => (de_tup (da_cons (de_op op_addA (addD false) (de_ix (de_var (pv 11)) de_int (fun _ _ => rfl)) de_int) (da_cons (de_ix (de_var (pv 11)) de_int (fun _ _ => rfl)) da_nil))))) da_nil)) (da_cons (de_op op_addA (addD false) (de_var (pv 2)) (de_tup (da_cons (de_tup (da_cons (de_op op_addA (addD false) (de_ix (de_ix (de_var (pv 2)) (de_un un_neg negD de_int) (fun _ _ => rfl)) de_int (fun _ _ => rfl)) de_int) (da_cons (de_ix (de_ix (de_var (pv 2)) (de_un un_neg negD de_int) (fun _ _ => rfl)) de_int (fun _ _ => rfl)) da_nil))) da_nil))) da_nil))))))))
    (dss_cons (ds_set (i := 4) sc_law.nd rfl (Or.inl rfl) (de_op op_addA (addD false) (de_var (pv 4)) (de_lst false (da_cons (de_op op_addA (addD false) (de_var (pv 2)) (de_tup (da_cons (de_ix (de_var (pv 2)) (de_un un_neg negD de_int) (fun _ _ => rfl)) da_nil))) (da_cons (de_tup da_nil) (da_cons de_non (da_cons de_int (da_cons (de_tup (da_cons (de_tup (da_cons de_int (da_cons de_int da_nil))) (da_cons (de_tup (da_cons de_int (da_cons de_int da_nil))) da_nil))) (da_cons (de_tup (da_cons (de_tup (da_cons de_int (da_cons de_int da_nil))) (da_cons (de_tup (da_cons de_int (da_cons de_int da_nil))) da_nil))) (da_cons (de_tup (da_cons (de_tup (da_cons de_int (da_cons de_bl da_nil))) da_nil)) (da_cons (de_tup (da_cons (de_tup (da_cons de_int (da_cons de_int (da_cons de_int da_nil)))) da_nil)) (da_cons (de_callT call_tuple_of tupleD (by rfl) Z.n_tuple (by decide +kernel) (da_cons (de_lc (own := [("j", 12)]) (ns := [12]) false rfl sc_law.nd (di_r1 (by rfl) Z.n_range (da_cons de_int da_nil)) (blkOk_by (N := N_law) (sc := defScope st_law) (by decide +kernel)) (by decide) (fun _ _ _ _ _ => (dg_name (i := 12) (pg_name (i := 12) sc_law.nd rfl (by first | exact Or.inl rfl | exact Or.inr rfl)))) (fun _ _ _ _ _ => dts_nil) (fun _ _ _ _ _ => (de_tup (da_cons de_int (da_cons (de_var (pv 12)) da_nil))))) da_nil)) (da_cons de_str da_nil)))))))))))))
    (dss_cons (ds_for po rfl (di_seq (de_var (pv 4))) (dg_name (i := 5) (pg_name (i := 5) sc_law.nd rfl (Or.inr rfl))) (dss_cons (ds_set (i := 6) sc_law.nd rfl (Or.inl rfl) (de_fnP (ok__law_is_piece Z hw) (hr.mono (by decide)) (by rfl) Z.g__law_is_piece Z.k__law_is_piece Z.b__law_is_piece tk (da_cons (de_var (pv 5)) da_nil) (len_cons len_nil)))
    (dss_cons (ds_if (dt_not (dt_truth (de_fnP (ok__law_alike Z hw 8) (hr.mono (by decide)) (by rfl) Z.g__law_alike Z.k__law_alike Z.b__law_alike tk (da_cons (de_fnP (ok_is_piece Z hw) (hr.mono (by decide)) (by rfl) Z.g_is_piece Z.k_is_piece Z.b_is_piece tk (da_cons (de_var (pv 5)) da_nil) (len_cons len_nil)) (da_cons (de_var (pv 6)) da_nil)) (len_cons (len_cons len_nil))) (fun _ => rfl))) (dss_one (ds_ret de_bl)) dss_nil)
    (dss_cons (ds_if (dt_of (dw_and (dt_not (dt_truth (de_var (pv 6)) (fun _ => rfl))) (dw_and1 (dt_cmp (op_neD hr.units) neD (de_lc (own := [("ask", 13)]) (ns := [13]) false rfl sc_law.nd (di_seq (de_lst false (da_cons (de_def (j := 11) (by rfl) Z.g_turned) (da_cons (de_def (j := 12) (by rfl) Z.g_flipped) (da_cons (de_def (j := 14) (by rfl) Z.g_least_form) (da_cons (de_def (j := 16) (by rfl) Z.g_drawn) da_nil)))))) (blkOk_by (N := N_law) (sc := defScope st_law) (by decide +kernel)) (by decide) (fun _ _ _ _ _ => (dg_name (i := 13) (pg_name (i := 13) sc_law.nd rfl (by first | exact Or.inl rfl | exact Or.inr rfl)))) (fun _ _ _ _ _ => (dts_one (dt_not (dt_truth (de_fnP (ok__law_refused Z hw) (hr.mono (by decide)) (by rfl) Z.g__law_refused Z.k__law_refused Z.b__law_refused takes00 (da_cons (de_var (pv 13)) (da_cons (de_var (pv 5)) da_nil)) (len_cons (len_cons len_nil))) (fun _ => rfl))))) (fun _ _ _ _ _ => (de_var (pv 13)))) (de_lst false da_nil) (nomark _))))) (dss_one (ds_ret de_bl)) dss_nil)
    (dss_one (ds_if (dt_of (dw_and (dt_not (dt_truth (de_var (pv 6)) (fun _ => rfl))) (dw_and1 (dt_not (dt_truth (de_lamPlainP (kl := 6) (nl := 1) (N := ["one"]) (ps' := ["one"]) (by rfl) Z.g__law_refused Z.k__law_refused Z.b__law_refused rfl (fun z => okL__law_refused (fa := fa.with z) Z hw) (hr.mono (by decide)) hl0 TB rfl (by rfl) (by rfl) (by exact ⟨rfl, rfl, rfl, by decide +kernel, rfl, by decide +kernel, by decide +kernel⟩) rfl (fun _ _ _ _ us hl => match us, hl with | [_], _ => rfl) (fun _ _ _ _ _ _ _ _ hrl => (de_fnP (ok_forms (fa := fa.with _) Z hw) (hrl.mono (by decide)) (by rfl) Z.g_forms Z.k_forms Z.b_forms (takes_of rfl rfl rfl rfl) (da_cons (de_var (pv 0)) (da_cons de_bl da_nil)) (len_cons (len_cons len_nil)))) (da_cons (de_var (pv 5)) da_nil) (len_cons len_nil) tk) (fun _ => rfl)))))) (dss_one (ds_ret de_bl)) dss_nil))))))
    (dss_cons (ds_if (dt_of (dw_or (dt_not (dt_truth (de_fnP (ok__law_alike Z hw 8) (hr.mono (by decide)) (by rfl) Z.g__law_alike Z.k__law_alike Z.b__law_alike tk (da_cons (de_fnP (ok_turned Z hw) (hr.mono (by decide)) (by rfl) Z.g_turned Z.k_turned Z.b_turned tk (da_cons (de_var (pv 2)) da_nil) (len_cons len_nil)) (da_cons (de_fnP (ok__law_settle Z hw) (hr.mono (by decide)) (by rfl) Z.g__law_settle Z.k__law_settle Z.b__law_settle tk (da_cons (de_lc (own := [("one", 11)]) (ns := [11]) false rfl sc_law.nd (di_seq (de_var (pv 2))) (blkOk_by (N := N_law) (sc := defScope st_law) (by decide +kernel)) (by decide) (fun _ _ _ _ _ => (dg_name (i := 11) (pg_name (i := 11) sc_law.nd rfl (by first | exact Or.inl rfl | exact Or.inr rfl)))) (fun _ _ _ _ _ => dts_nil) (fun _ _ _ _ _ => (de_tup (da_cons (de_ix (de_var (pv 11)) de_int (fun _ _ => rfl)) (da_cons (de_op op_sub subD de_int (de_ix (de_var (pv 11)) de_int (fun _ _ => rfl))) da_nil))))) da_nil) (len_cons len_nil)) da_nil)) (len_cons (len_cons len_nil))) (fun _ => rfl))) (dw_or1 (dt_not (dt_truth (de_fnP (ok__law_alike Z hw 8) (hr.mono (by decide)) (by rfl) Z.g__law_alike Z.k__law_alike Z.b__law_alike tk (da_cons (de_fnP (ok_flipped Z hw) (hr.mono (by decide)) (by rfl) Z.g_flipped Z.k_flipped Z.b_flipped tk (da_cons (de_var (pv 2)) da_nil) (len_cons len_nil)) (da_cons (de_fnP (ok__law_settle Z hw) (hr.mono (by decide)) (by rfl) Z.g__law_settle Z.k__law_settle Z.b__law_settle tk (da_cons (de_lc (own := [("one", 11)]) (ns := [11]) false rfl sc_law.nd (di_seq (de_var (pv 2))) (blkOk_by (N := N_law) (sc := defScope st_law) (by decide +kernel)) (by decide) (fun _ _ _ _ _ => (dg_name (i := 11) (pg_name (i := 11) sc_law.nd rfl (by first | exact Or.inl rfl | exact Or.inr rfl)))) (fun _ _ _ _ _ => dts_nil) (fun _ _ _ _ _ => (de_tup (da_cons (de_ix (de_var (pv 11)) de_int (fun _ _ => rfl)) (da_cons (de_op op_sub subD de_int (de_ix (de_var (pv 11)) de_int (fun _ _ => rfl))) da_nil))))) da_nil) (len_cons len_nil)) da_nil)) (len_cons (len_cons len_nil))) (fun _ => rfl)))))) (dss_one (ds_ret de_bl)) dss_nil)
    (dss_cons (ds_for po rfl (di_seq (de_lst false (da_cons de_bl (da_cons de_bl da_nil)))) (dg_name (i := 7) (pg_name (i := 7) sc_law.nd rfl (Or.inl rfl))) (dss_one (ds_if (dt_not (dt_truth (de_fnP (ok__law_alike Z hw 8) (hr.mono (by decide)) (by rfl) Z.g__law_alike Z.k__law_alike Z.b__law_alike tk (da_cons (de_fnP (ok_forms Z hw) (hr.mono (by decide)) (by rfl) Z.g_forms Z.k_forms Z.b_forms tk (da_cons (de_var (pv 2)) (da_cons (de_var (pv 7)) da_nil)) (len_cons (len_cons len_nil))) (da_cons (de_callT call_tuple_of tupleD (by rfl) Z.n_tuple (by decide +kernel) (da_cons (de_fnP (ok__law_forms Z hw) (hr.mono (by decide)) (by rfl) Z.g__law_forms Z.k__law_forms Z.b__law_forms tk (da_cons (de_var (pv 2)) (da_cons (de_var (pv 7)) da_nil)) (len_cons (len_cons len_nil))) da_nil)) da_nil)) (len_cons (len_cons len_nil))) (fun _ => rfl))) (dss_one (ds_ret de_bl)) dss_nil)))
    (dss_cons (ds_if (dt_not (dt_truth (de_fnP (ok__law_alike Z hw 8) (hr.mono (by decide)) (by rfl) Z.g__law_alike Z.k__law_alike Z.b__law_alike tk (da_cons (de_fnP (ok_least_form Z hw) (hr.mono (by decide)) (by rfl) Z.g_least_form Z.k_least_form Z.b_least_form tk (da_cons (de_var (pv 2)) da_nil) (len_cons len_nil)) (da_cons (de_ix (de_fnP (ok__law_forms Z hw) (hr.mono (by decide)) (by rfl) Z.g__law_forms Z.k__law_forms Z.b__law_forms tk (da_cons (de_var (pv 2)) (da_cons de_bl da_nil)) (len_cons (len_cons len_nil))) de_int (fun _ _ => rfl)) da_nil)) (len_cons (len_cons len_nil))) (fun _ => rfl))) (dss_one (ds_ret de_bl)) dss_nil)
    (dss_cons (ds_tups rfl (da_cons (de_op op_addA (addD false) (de_callB (CallR.or (call_max2 rfl) (cr_max rfl)) (int2D maxLD) (by rfl) Z.n_max (by decide +kernel) (da_cons (de_lc (own := [("one", 11)]) (ns := [11]) false rfl sc_law.nd (di_seq (de_var (pv 2))) (blkOk_by (N := N_law) (sc := defScope st_law) (by decide +kernel)) (by decide) (fun _ _ _ _ _ => (dg_name (i := 11) (pg_name (i := 11) sc_law.nd rfl (by first | exact Or.inl rfl | exact Or.inr rfl)))) (fun _ _ _ _ _ => dts_nil) (fun _ _ _ _ _ => (de_ix (de_var (pv 11)) de_int (fun _ _ => rfl)))) da_nil)) de_int) (da_cons (de_op op_addA (addD false) (de_callB (CallR.or (call_max2 rfl) (cr_max rfl)) (int2D maxLD) (by rfl) Z.n_max (by decide +kernel) (da_cons (de_lc (own := [("one", 11)]) (ns := [11]) false rfl sc_law.nd (di_seq (de_var (pv 2))) (blkOk_by (N := N_law) (sc := defScope st_law) (by decide +kernel)) (by decide) (fun _ _ _ _ _ => (dg_name (i := 11) (pg_name (i := 11) sc_law.nd rfl (by first | exact Or.inl rfl | exact Or.inr rfl)))) (fun _ _ _ _ _ => dts_nil) (fun _ _ _ _ _ => (de_ix (de_var (pv 11)) de_int (fun _ _ => rfl)))) da_nil)) de_int) da_nil)) (dgs_cons (dg_name (i := 8) (pg_name (i := 8) sc_law.nd rfl (Or.inl rfl))) (dgs_cons (dg_name (i := 9) (pg_name (i := 9) sc_law.nd rfl (Or.inr rfl))) dgs_nil)))
    (dss_cons (ds_if (dt_not (dt_truth (de_fnP (ok__law_alike Z hw 8) (hr.mono (by decide)) (by rfl) Z.g__law_alike Z.k__law_alike Z.b__law_alike tk (da_cons (de_fnP (ok_drawn Z hw) (hr.mono (by decide)) (by rfl) Z.g_drawn Z.k_drawn Z.b_drawn tk (da_cons (de_var (pv 2)) da_nil) (len_cons len_nil)) (da_cons (de_callT call_tuple_of tupleD (by rfl) Z.n_tuple (by decide +kernel) (da_cons (de_lc (own := [("r", 14)]) (ns := [14]) false rfl sc_law.nd (di_r1 (by rfl) Z.n_range (da_cons (de_var (pv 8)) da_nil)) (blkOk_by (N := N_law) (sc := defScope st_law) (by decide +kernel)) (by decide) (fun _ _ _ _ _ => (dg_name (i := 14) (pg_name (i := 14) sc_law.nd rfl (by first | exact Or.inl rfl | exact Or.inr rfl)))) (fun _ _ _ _ _ => dts_nil) (fun _ _ _ _ _ => (de_meth PySem.F.plainAttrs_str PySem.F.slot_str_join PySem.F.type_str_join mt_join joinD de_str (da_cons (de_lc (own := [("c", 15)]) (ns := [15]) false rfl sc_law.nd (di_r1 (by rfl) Z.n_range (da_cons (de_var (pv 9)) da_nil)) (blkOk_nest (N := N_law) (by decide +kernel)) (by decide) (fun _ _ _ _ _ => (dg_name (i := 15) (pg_name (i := 15) sc_law.nd rfl (by first | exact Or.inl rfl | exact Or.inr rfl)))) (fun _ _ _ _ _ => dts_nil) (fun _ _ _ _ _ => (de_if (dt_cmp (op_inA (hu65 hr)) (inD false) (de_tup (da_cons (de_var (pv 14)) (da_cons (de_var (pv 15)) da_nil))) (de_var (pv 2)) (by rfl)) de_str de_str))) da_nil)))) da_nil)) da_nil)) (len_cons (len_cons len_nil))) (fun _ => rfl))) (dss_one (ds_ret de_bl)) dss_nil)
    (dss_cons (ds_set (i := 10) sc_law.nd rfl (Or.inl rfl) (de_op op_addA (addD false) de_int (de_fn false (ok__law_taken Z hw) (hr.mono (by decide)) (by rfl) Z.g__law_taken Z.k__law_taken Z.b__law_taken tk (da_cons (de_var (pv 1)) (da_cons de_int da_nil)) (len_cons (len_cons len_nil)))))
    (dss_cons (ds_if (dt_not (dt_truth (de_fnP (ok__law_alike Z hw 8) (hr.mono (by decide)) (by rfl) Z.g__law_alike Z.k__law_alike Z.b__law_alike tk (da_cons (de_fnP (ok_pieces_of Z hw) (hr.mono (by decide)) (by rfl) Z.g_pieces_of Z.k_pieces_of Z.b_pieces_of tk (da_cons (de_var (pv 10)) da_nil) (len_cons len_nil)) (da_cons (de_callT call_tuple_of tupleD (by rfl) Z.n_tuple (by decide +kernel) (da_cons (de_fnP (ok__law_all_pieces Z hw) (hr.mono (by decide)) (by rfl) Z.g__law_all_pieces Z.k__law_all_pieces Z.b__law_all_pieces tk (da_cons (de_var (pv 10)) da_nil) (len_cons len_nil)) da_nil)) da_nil)) (len_cons (len_cons len_nil))) (fun _ => rfl))) (dss_one (ds_ret de_bl)) dss_nil)
    (dss_one (ds_ret (de_cmp (op_eqD hr.units) eqD (de_lc (own := [("value", 5)]) (ns := [5]) false rfl sc_law.nd (di_seq (de_lst false (da_cons de_int (da_cons de_int (da_cons de_non (da_cons de_bl (da_cons de_str (da_cons (de_op op_sub subD de_int de_int) da_nil)))))))) (blkOk_by (N := N_law) (sc := defScope st_law) (by decide +kernel)) (by decide) (fun _ _ _ _ _ => (dg_name (i := 5) (pg_name (i := 5) sc_law.nd rfl (by first | exact Or.inl rfl | exact Or.inr rfl)))) (fun _ _ _ _ _ => (dts_one (dt_not (dt_truth (de_fnP (ok__law_refused Z hw) (hr.mono (by decide)) (by rfl) Z.g__law_refused Z.k__law_refused Z.b__law_refused takes00 (da_cons (de_def (j := 15) (by rfl) Z.g_pieces_of) (da_cons (de_var (pv 5)) da_nil)) (len_cons (len_cons len_nil))) (fun _ => rfl))))) (fun _ _ _ _ _ => (de_var (pv 5)))) (de_lst false da_nil) (nomark _)))))))))))))))))
end
end DL
namespace DL
open PySem PySem.Spec PyProof.Rows L2 StX
/-- the law, of the functions printed above -/
def LawT : Prop := ∀ ns : List Int, ns.length ≤ 63 → ∃ S, F_law [.d (.lst (ns.map D.int))] [.tab "law.<locals>.<lambda>"] = .ok (.d (.bl true)) S
theorem exm_own {K : PySem.W.Frag} {S : Addr} (h1 : PySem.W.subIn K (.ref S) (.type "BaseException") = some true) (h2 : PySem.W.isClsIn K S = true) (h3 : PySem.W.typeIn K (.ref S) = some (.type "type")) (h4 : PySem.W.subIn K (.ref S) (.ref S) = some true) : PySem.W.exmOne K (.ref S) (.ref S) = some true := by
  have z1 : (PySem.W.subIn K (.ref S) (.type "BaseException") == some true) = true := by rw [h1] <;> rfl
  have z2 : ((PySem.W.clsIn K S).isSome && PySem.W.typeIn K (.ref S) == some (.type "type")) = true := by
    rw [show (PySem.W.clsIn K S).isSome = true from h2, h3] <;> rfl
  unfold PySem.W.exmOne
  show (if _ then (if _ then PySem.W.subIn K (.ref S) (.ref S) else none) else none) = some true
  rw [if_pos z1, if_pos z2]
  exact h4
theorem ints_rep {K : PySem.W.Frag} {fa : FA} {F : Hp} : ∀ ns : List Int, RepL K fa F (ns.map V.int) (ns.map D.int)
  | [] => .nil
  | n :: ns => .cons (.int n) (ints_rep ns)
theorem script_rep {K : PySem.W.Frag} {fa : FA} {H : Hp} {PL a : Addr} {ns : List Int} (hP : H PL = some (.tbl #[])) (hS : SqL K H a (ns.map V.int)) : Rep K fa (fz ([PL] ++ []) H) (.ref a) (.lst (ns.map D.int)) := by
  refine .lst ?_ (ints_rep ns)
  have off : ∀ o, H a = some o → (∀ ps, o ≠ .tbl ps) → fz ([PL] ++ []) H a = some o := fun o e n => fz_of (fun z => by
    rw [List.mem_singleton.mp z, hP] at e
    exact n _ (Option.some.inj e).symm) e
  rcases hS with (h | ⟨o, h⟩) | h
  · exact .inl (.inl (off _ h fun ps z => by cases z))
  · exact .inl (.inr ⟨o, off _ h fun ps z => by cases z⟩)
  · exact .inr h
theorem all_mk {w : World} {K : PySem.W.Frag} {h : Heap} {mg : Str → Option Value} {f0 : Addr} (X : K.In h) (G : h.Ns mainGlobals mg) (hfa : mg "law" = some (.ref f0))
    {A24 : Addr} {od24 an24 : Option Addr} {sl24 : Array (Option Value)} {oc24 kV24 dc24 pm24 ct24 : Value} {cd24 : Value} {A25 : Addr} {od25 an25 : Option Addr} {sl25 : Array (Option Value)} {oc25 kV25 dc25 pm25 ct25 : Value} {cd25 : Value} {A26 : Addr} {od26 an26 : Option Addr} {sl26 : Array (Option Value)} {oc26 kV26 dc26 pm26 ct26 : Value} {cd26 : Value} {A41 : Addr} {od41 an41 : Option Addr} {sl41 : Array (Option Value)} {oc41 kV41 dc41 pm41 ct41 : Value} {cd41 : Value} {A22 : Addr} {od22 an22 : Option Addr} {sl22 : Array (Option Value)} {oc22 kV22 dc22 pm22 ct22 : Value} {cd22 : Value} {A23 : Addr} {od23 an23 : Option Addr} {sl23 : Array (Option Value)} {oc23 kV23 dc23 pm23 ct23 : Value} {cd23 : Value} {A39 : Addr} {od39 an39 : Option Addr} {sl39 : Array (Option Value)} {oc39 kV39 dc39 pm39 ct39 : Value} {cd39 : Value} {A40 : Addr} {od40 an40 : Option Addr} {sl40 : Array (Option Value)} {oc40 kV40 dc40 pm40 ct40 : Value} {cd40 : Value} {A18 : Addr} {od18 an18 : Option Addr} {sl18 : Array (Option Value)} {oc18 kV18 dc18 pm18 ct18 : Value} {cd18 : Value} {A19 : Addr} {od19 an19 : Option Addr} {sl19 : Array (Option Value)} {oc19 kV19 dc19 pm19 ct19 : Value} {cd19 : Value} {A6 : Addr} {od6 an6 : Option Addr} {sl6 : Array (Option Value)} {oc6 kV6 dc6 pm6 ct6 : Value} {cd6 : Value} {A9 : Addr} {od9 an9 : Option Addr} {sl9 : Array (Option Value)} {oc9 kV9 dc9 pm9 ct9 : Value} {cd9 : Value} {A8 : Addr} {od8 an8 : Option Addr} {sl8 : Array (Option Value)} {oc8 kV8 dc8 pm8 ct8 : Value} {cd8 : Value} {A2 : Addr} {od2 an2 : Option Addr} {sl2 : Array (Option Value)} {oc2 kV2 dc2 pm2 ct2 : Value} {cd2 : Value} {A3 : Addr} {od3 an3 : Option Addr} {sl3 : Array (Option Value)} {oc3 kV3 dc3 pm3 ct3 : Value} {cd3 : Value} {A10 : Addr} {od10 an10 : Option Addr} {sl10 : Array (Option Value)} {oc10 kV10 dc10 pm10 ct10 : Value} {cd10 : Value} {A17 : Addr} {od17 an17 : Option Addr} {sl17 : Array (Option Value)} {oc17 kV17 dc17 pm17 ct17 : Value} {cd17 : Value} {A0 : Addr} {od0 an0 : Option Addr} {sl0 : Array (Option Value)} {oc0 kV0 dc0 pm0 ct0 : Value} {cd0 : Value} {A11 : Addr} {od11 an11 : Option Addr} {sl11 : Array (Option Value)} {oc11 kV11 dc11 pm11 ct11 : Value} {cd11 : Value} {A1 : Addr} {od1 an1 : Option Addr} {sl1 : Array (Option Value)} {oc1 kV1 dc1 pm1 ct1 : Value} {cd1 : Value} {A12 : Addr} {od12 an12 : Option Addr} {sl12 : Array (Option Value)} {oc12 kV12 dc12 pm12 ct12 : Value} {cd12 : Value} {A5 : Addr} {od5 an5 : Option Addr} {sl5 : Array (Option Value)} {oc5 kV5 dc5 pm5 ct5 : Value} {cd5 : Value} {A4 : Addr} {od4 an4 : Option Addr} {sl4 : Array (Option Value)} {oc4 kV4 dc4 pm4 ct4 : Value} {cd4 : Value} {A13 : Addr} {od13 an13 : Option Addr} {sl13 : Array (Option Value)} {oc13 kV13 dc13 pm13 ct13 : Value} {cd13 : Value} {A14 : Addr} {od14 an14 : Option Addr} {sl14 : Array (Option Value)} {oc14 kV14 dc14 pm14 ct14 : Value} {cd14 : Value} {A20 : Addr} {od20 an20 : Option Addr} {sl20 : Array (Option Value)} {oc20 kV20 dc20 pm20 ct20 : Value} {cd20 : Value} {A7 : Addr} {od7 an7 : Option Addr} {sl7 : Array (Option Value)} {oc7 kV7 dc7 pm7 ct7 : Value} {cd7 : Value} {A15 : Addr} {od15 an15 : Option Addr} {sl15 : Array (Option Value)} {oc15 kV15 dc15 pm15 ct15 : Value} {cd15 : Value} {A21 : Addr} {od21 an21 : Option Addr} {sl21 : Array (Option Value)} {oc21 kV21 dc21 pm21 ct21 : Value} {cd21 : Value} {A16 : Addr} {od16 an16 : Option Addr} {sl16 : Array (Option Value)} {oc16 kV16 dc16 pm16 ct16 : Value} {cd16 : Value} {A42 : Addr} {od42 an42 : Option Addr} {sl42 : Array (Option Value)} {oc42 kV42 dc42 pm42 ct42 : Value} {cd42 : Value} {A43 : Addr} {od43 an43 : Option Addr} {sl43 : Array (Option Value)} {oc43 kV43 dc43 pm43 ct43 : Value} {cl : Addr} {tk_MOST_CELLS : Tok} {A45 : Addr} {PL : Addr}
    (a24 : PySem.W.nsIn K mainGlobals "_law_alike" = some (some (.ref A24)))
    (l24 : K.lookup A24 = some ⟨oc24, od24, .func (PySem.W.fnOf "_law_alike" "_law_alike" (defArgs (topS 32)) (defBody (topS 32)) (defScope (topS 32)) .none kV24 dc24 pm24 an24 cd24 ct24), sl24⟩)
    (c24 : PySem.W.codeIn K cd24 "_law_alike" = true)
    (k24 : PySem.W.keepIn K (.ref A24) = true)
    (a25 : PySem.W.nsIn K mainGlobals "_law_settle" = some (some (.ref A25)))
    (l25 : K.lookup A25 = some ⟨oc25, od25, .func (PySem.W.fnOf "_law_settle" "_law_settle" (defArgs (topS 33)) (defBody (topS 33)) (defScope (topS 33)) .none kV25 dc25 pm25 an25 cd25 ct25), sl25⟩)
    (c25 : PySem.W.codeIn K cd25 "_law_settle" = true)
    (k25 : PySem.W.keepIn K (.ref A25) = true)
    (a26 : PySem.W.nsIn K mainGlobals "_law_forms" = some (some (.ref A26)))
    (l26 : K.lookup A26 = some ⟨oc26, od26, .func (PySem.W.fnOf "_law_forms" "_law_forms" (defArgs (topS 34)) (defBody (topS 34)) (defScope (topS 34)) .none kV26 dc26 pm26 an26 cd26 ct26), sl26⟩)
    (c26 : PySem.W.codeIn K cd26 "_law_forms" = true)
    (k26 : PySem.W.keepIn K (.ref A26) = true)
    (a41 : PySem.W.nsIn K mainGlobals "_law_all_pieces" = some (some (.ref A41)))
    (l41 : K.lookup A41 = some ⟨oc41, od41, .func (PySem.W.fnOf "_law_all_pieces" "_law_all_pieces" (defArgs (topS 49)) (defBody (topS 49)) (defScope (topS 49)) .none kV41 dc41 pm41 an41 cd41 ct41), sl41⟩)
    (c41 : PySem.W.codeIn K cd41 "_law_all_pieces" = true)
    (k41 : PySem.W.keepIn K (.ref A41) = true)
    (a22 : PySem.W.nsIn K mainGlobals "_law_taken" = some (some (.ref A22)))
    (l22 : K.lookup A22 = some ⟨oc22, od22, .func (PySem.W.fnOf "_law_taken" "_law_taken" (defArgs (topS 30)) (defBody (topS 30)) (defScope (topS 30)) .none kV22 dc22 pm22 an22 cd22 ct22), sl22⟩)
    (c22 : PySem.W.codeIn K cd22 "_law_taken" = true)
    (k22 : PySem.W.keepIn K (.ref A22) = true)
    (a23 : PySem.W.nsIn K mainGlobals "_law_pick" = some (some (.ref A23)))
    (l23 : K.lookup A23 = some ⟨oc23, od23, .func (PySem.W.fnOf "_law_pick" "_law_pick" (defArgs (topS 31)) (defBody (topS 31)) (defScope (topS 31)) .none kV23 dc23 pm23 an23 cd23 ct23), sl23⟩)
    (c23 : PySem.W.codeIn K cd23 "_law_pick" = true)
    (k23 : PySem.W.keepIn K (.ref A23) = true)
    (a39 : PySem.W.nsIn K mainGlobals "_law_grown" = some (some (.ref A39)))
    (l39 : K.lookup A39 = some ⟨oc39, od39, .func (PySem.W.fnOf "_law_grown" "_law_grown" (defArgs (topS 47)) (defBody (topS 47)) (defScope (topS 47)) .none kV39 dc39 pm39 an39 cd39 ct39), sl39⟩)
    (c39 : PySem.W.codeIn K cd39 "_law_grown" = true)
    (k39 : PySem.W.keepIn K (.ref A39) = true)
    (a40 : PySem.W.nsIn K mainGlobals "_law_is_piece" = some (some (.ref A40)))
    (l40 : K.lookup A40 = some ⟨oc40, od40, .func (PySem.W.fnOf "_law_is_piece" "_law_is_piece" (defArgs (topS 48)) (defBody (topS 48)) (defScope (topS 48)) .none kV40 dc40 pm40 an40 cd40 ct40), sl40⟩)
    (c40 : PySem.W.codeIn K cd40 "_law_is_piece" = true)
    (k40 : PySem.W.keepIn K (.ref A40) = true)
    (a18 : PySem.W.nsIn K mainGlobals "_cells_beside" = some (some (.ref A18)))
    (l18 : K.lookup A18 = some ⟨oc18, od18, .func (PySem.W.fnOf "_cells_beside" "_cells_beside" (defArgs (topS 25)) (defBody (topS 25)) (defScope (topS 25)) .none kV18 dc18 pm18 an18 cd18 ct18), sl18⟩)
    (c18 : PySem.W.codeIn K cd18 "_cells_beside" = true)
    (k18 : PySem.W.keepIn K (.ref A18) = true)
    (a19 : PySem.W.nsIn K mainGlobals "_hangs_together" = some (some (.ref A19)))
    (l19 : K.lookup A19 = some ⟨oc19, od19, .func (PySem.W.fnOf "_hangs_together" "_hangs_together" (defArgs (topS 26)) (defBody (topS 26)) (defScope (topS 26)) .none kV19 dc19 pm19 an19 cd19 ct19), sl19⟩)
    (c19 : PySem.W.codeIn K cd19 "_hangs_together" = true)
    (k19 : PySem.W.keepIn K (.ref A19) = true)
    (a6 : PySem.W.nsIn K mainGlobals "is_an_integer" = some (some (.ref A6)))
    (l6 : K.lookup A6 = some ⟨oc6, od6, .func (PySem.W.fnOf "is_an_integer" "is_an_integer" (defArgs (topS 11)) (defBody (topS 11)) (defScope (topS 11)) .none kV6 dc6 pm6 an6 cd6 ct6), sl6⟩)
    (c6 : PySem.W.codeIn K cd6 "is_an_integer" = true)
    (k6 : PySem.W.keepIn K (.ref A6) = true)
    (a9 : PySem.W.nsIn K mainGlobals "_is_pair_of_integers" = some (some (.ref A9)))
    (l9 : K.lookup A9 = some ⟨oc9, od9, .func (PySem.W.fnOf "_is_pair_of_integers" "_is_pair_of_integers" (defArgs (topS 14)) (defBody (topS 14)) (defScope (topS 14)) .none kV9 dc9 pm9 an9 cd9 ct9), sl9⟩)
    (c9 : PySem.W.codeIn K cd9 "_is_pair_of_integers" = true)
    (k9 : PySem.W.keepIn K (.ref A9) = true)
    (a8 : PySem.W.nsIn K mainGlobals "is_cell" = some (some (.ref A8)))
    (l8 : K.lookup A8 = some ⟨oc8, od8, .func (PySem.W.fnOf "is_cell" "is_cell" (defArgs (topS 13)) (defBody (topS 13)) (defScope (topS 13)) .none kV8 dc8 pm8 an8 cd8 ct8), sl8⟩)
    (c8 : PySem.W.codeIn K cd8 "is_cell" = true)
    (k8 : PySem.W.keepIn K (.ref A8) = true)
    (a2 : PySem.W.nsIn K mainGlobals "moved_home" = some (some (.ref A2)))
    (l2 : K.lookup A2 = some ⟨oc2, od2, .func (PySem.W.fnOf "moved_home" "moved_home" (defArgs (topS 6)) (defBody (topS 6)) (defScope (topS 6)) .none kV2 dc2 pm2 an2 cd2 ct2), sl2⟩)
    (c2 : PySem.W.codeIn K cd2 "moved_home" = true)
    (k2 : PySem.W.keepIn K (.ref A2) = true)
    (a3 : PySem.W.nsIn K mainGlobals "set_home" = some (some (.ref A3)))
    (l3 : K.lookup A3 = some ⟨oc3, od3, .func (PySem.W.fnOf "set_home" "set_home" (defArgs (topS 7)) (defBody (topS 7)) (defScope (topS 7)) .none kV3 dc3 pm3 an3 cd3 ct3), sl3⟩)
    (c3 : PySem.W.codeIn K cd3 "set_home" = true)
    (k3 : PySem.W.keepIn K (.ref A3) = true)
    (a10 : PySem.W.nsIn K mainGlobals "is_piece" = some (some (.ref A10)))
    (l10 : K.lookup A10 = some ⟨oc10, od10, .func (PySem.W.fnOf "is_piece" "is_piece" (defArgs (topS 17)) (defBody (topS 17)) (defScope (topS 17)) .none kV10 dc10 pm10 an10 cd10 ct10), sl10⟩)
    (c10 : PySem.W.codeIn K cd10 "is_piece" = true)
    (k10 : PySem.W.keepIn K (.ref A10) = true)
    (a17 : PySem.W.nsIn K mainGlobals "_check_piece" = some (some (.ref A17)))
    (l17 : K.lookup A17 = some ⟨oc17, od17, .func (PySem.W.fnOf "_check_piece" "_check_piece" (defArgs (topS 24)) (defBody (topS 24)) (defScope (topS 24)) .none kV17 dc17 pm17 an17 cd17 ct17), sl17⟩)
    (c17 : PySem.W.codeIn K cd17 "_check_piece" = true)
    (k17 : PySem.W.keepIn K (.ref A17) = true)
    (a0 : PySem.W.nsIn K mainGlobals "turned_cells" = some (some (.ref A0)))
    (l0 : K.lookup A0 = some ⟨oc0, od0, .func (PySem.W.fnOf "turned_cells" "turned_cells" (defArgs (topS 4)) (defBody (topS 4)) (defScope (topS 4)) .none kV0 dc0 pm0 an0 cd0 ct0), sl0⟩)
    (c0 : PySem.W.codeIn K cd0 "turned_cells" = true)
    (k0 : PySem.W.keepIn K (.ref A0) = true)
    (a11 : PySem.W.nsIn K mainGlobals "turned" = some (some (.ref A11)))
    (l11 : K.lookup A11 = some ⟨oc11, od11, .func (PySem.W.fnOf "turned" "turned" (defArgs (topS 18)) (defBody (topS 18)) (defScope (topS 18)) .none kV11 dc11 pm11 an11 cd11 ct11), sl11⟩)
    (c11 : PySem.W.codeIn K cd11 "turned" = true)
    (k11 : PySem.W.keepIn K (.ref A11) = true)
    (a1 : PySem.W.nsIn K mainGlobals "flipped_cells" = some (some (.ref A1)))
    (l1 : K.lookup A1 = some ⟨oc1, od1, .func (PySem.W.fnOf "flipped_cells" "flipped_cells" (defArgs (topS 5)) (defBody (topS 5)) (defScope (topS 5)) .none kV1 dc1 pm1 an1 cd1 ct1), sl1⟩)
    (c1 : PySem.W.codeIn K cd1 "flipped_cells" = true)
    (k1 : PySem.W.keepIn K (.ref A1) = true)
    (a12 : PySem.W.nsIn K mainGlobals "flipped" = some (some (.ref A12)))
    (l12 : K.lookup A12 = some ⟨oc12, od12, .func (PySem.W.fnOf "flipped" "flipped" (defArgs (topS 19)) (defBody (topS 19)) (defScope (topS 19)) .none kV12 dc12 pm12 an12 cd12 ct12), sl12⟩)
    (c12 : PySem.W.codeIn K cd12 "flipped" = true)
    (k12 : PySem.W.keepIn K (.ref A12) = true)
    (a5 : PySem.W.nsIn K mainGlobals "_four_turnings" = some (some (.ref A5)))
    (l5 : K.lookup A5 = some ⟨oc5, od5, .func (PySem.W.fnOf "_four_turnings" "_four_turnings" (defArgs (topS 9)) (defBody (topS 9)) (defScope (topS 9)) .none kV5 dc5 pm5 an5 cd5 ct5), sl5⟩)
    (c5 : PySem.W.codeIn K cd5 "_four_turnings" = true)
    (k5 : PySem.W.keepIn K (.ref A5) = true)
    (a4 : PySem.W.nsIn K mainGlobals "all_turnings" = some (some (.ref A4)))
    (l4 : K.lookup A4 = some ⟨oc4, od4, .func (PySem.W.fnOf "all_turnings" "all_turnings" (defArgs (topS 8)) (defBody (topS 8)) (defScope (topS 8)) .none kV4 dc4 pm4 an4 cd4 ct4), sl4⟩)
    (c4 : PySem.W.codeIn K cd4 "all_turnings" = true)
    (k4 : PySem.W.keepIn K (.ref A4) = true)
    (a13 : PySem.W.nsIn K mainGlobals "forms" = some (some (.ref A13)))
    (l13 : K.lookup A13 = some ⟨oc13, od13, .func (PySem.W.fnOf "forms" "forms" (defArgs (topS 20)) (defBody (topS 20)) (defScope (topS 20)) .none kV13 dc13 pm13 an13 cd13 ct13), sl13⟩)
    (c13 : PySem.W.codeIn K cd13 "forms" = true)
    (k13 : PySem.W.keepIn K (.ref A13) = true)
    (a14 : PySem.W.nsIn K mainGlobals "least_form" = some (some (.ref A14)))
    (l14 : K.lookup A14 = some ⟨oc14, od14, .func (PySem.W.fnOf "least_form" "least_form" (defArgs (topS 21)) (defBody (topS 21)) (defScope (topS 21)) .none kV14 dc14 pm14 an14 cd14 ct14), sl14⟩)
    (c14 : PySem.W.codeIn K cd14 "least_form" = true)
    (k14 : PySem.W.keepIn K (.ref A14) = true)
    (a20 : PySem.W.nsIn K mainGlobals "_one_cell_more" = some (some (.ref A20)))
    (l20 : K.lookup A20 = some ⟨oc20, od20, .func (PySem.W.fnOf "_one_cell_more" "_one_cell_more" (defArgs (topS 27)) (defBody (topS 27)) (defScope (topS 27)) .none kV20 dc20 pm20 an20 cd20 ct20), sl20⟩)
    (c20 : PySem.W.codeIn K cd20 "_one_cell_more" = true)
    (k20 : PySem.W.keepIn K (.ref A20) = true)
    (a7 : PySem.W.nsIn K mainGlobals "is_between" = some (some (.ref A7)))
    (l7 : K.lookup A7 = some ⟨oc7, od7, .func (PySem.W.fnOf "is_between" "is_between" (defArgs (topS 12)) (defBody (topS 12)) (defScope (topS 12)) .none kV7 dc7 pm7 an7 cd7 ct7), sl7⟩)
    (c7 : PySem.W.codeIn K cd7 "is_between" = true)
    (k7 : PySem.W.keepIn K (.ref A7) = true)
    (a15 : PySem.W.nsIn K mainGlobals "pieces_of" = some (some (.ref A15)))
    (l15 : K.lookup A15 = some ⟨oc15, od15, .func (PySem.W.fnOf "pieces_of" "pieces_of" (defArgs (topS 22)) (defBody (topS 22)) (defScope (topS 22)) .none kV15 dc15 pm15 an15 cd15 ct15), sl15⟩)
    (c15 : PySem.W.codeIn K cd15 "pieces_of" = true)
    (k15 : PySem.W.keepIn K (.ref A15) = true)
    (a21 : PySem.W.nsIn K mainGlobals "_drawn_row" = some (some (.ref A21)))
    (l21 : K.lookup A21 = some ⟨oc21, od21, .func (PySem.W.fnOf "_drawn_row" "_drawn_row" (defArgs (topS 28)) (defBody (topS 28)) (defScope (topS 28)) .none kV21 dc21 pm21 an21 cd21 ct21), sl21⟩)
    (c21 : PySem.W.codeIn K cd21 "_drawn_row" = true)
    (k21 : PySem.W.keepIn K (.ref A21) = true)
    (a16 : PySem.W.nsIn K mainGlobals "drawn" = some (some (.ref A16)))
    (l16 : K.lookup A16 = some ⟨oc16, od16, .func (PySem.W.fnOf "drawn" "drawn" (defArgs (topS 23)) (defBody (topS 23)) (defScope (topS 23)) .none kV16 dc16 pm16 an16 cd16 ct16), sl16⟩)
    (c16 : PySem.W.codeIn K cd16 "drawn" = true)
    (k16 : PySem.W.keepIn K (.ref A16) = true)
    (a42 : PySem.W.nsIn K mainGlobals "_law_refused" = some (some (.ref A42)))
    (l42 : K.lookup A42 = some ⟨oc42, od42, .func (PySem.W.fnOf "_law_refused" "_law_refused" (defArgs (topS 50)) (defBody (topS 50)) (defScope (topS 50)) .none kV42 dc42 pm42 an42 cd42 ct42), sl42⟩)
    (c42 : PySem.W.codeIn K cd42 "_law_refused" = true)
    (k42 : PySem.W.keepIn K (.ref A42) = true)
    (a43 : PySem.W.nsIn K mainGlobals "law" = some (some (.ref A43)))
    (l43 : K.lookup A43 = some ⟨oc43, od43, .func (PySem.W.fnOf "law" "law" (defArgs (topS 51)) (defBody (topS 51)) (defScope (topS 51)) .none kV43 dc43 pm43 an43 (.ref cl) ct43), sl43⟩)
    (c43 : PySem.W.codeIn K (.ref cl) "law" = true)
    (k43 : PySem.W.keepIn K (.ref A43) = true)
    (z_abs : PySem.W.nsIn K mainGlobals "abs" = some none)
    (z_all : PySem.W.nsIn K mainGlobals "all" = some none)
    (z_bool : PySem.W.nsIn K mainGlobals "bool" = some none)
    (z_int : PySem.W.nsIn K mainGlobals "int" = some none)
    (z_isinstance : PySem.W.nsIn K mainGlobals "isinstance" = some none)
    (z_len : PySem.W.nsIn K mainGlobals "len" = some none)
    (z_list : PySem.W.nsIn K mainGlobals "list" = some none)
    (z_max : PySem.W.nsIn K mainGlobals "max" = some none)
    (z_min : PySem.W.nsIn K mainGlobals "min" = some none)
    (z_range : PySem.W.nsIn K mainGlobals "range" = some none)
    (z_set : PySem.W.nsIn K mainGlobals "set" = some none)
    (z_sorted : PySem.W.nsIn K mainGlobals "sorted" = some none)
    (z_str : PySem.W.nsIn K mainGlobals "str" = some none)
    (z_tuple : PySem.W.nsIn K mainGlobals "tuple" = some none)
    (y_MOST_CELLS : PySem.W.nsIn K mainGlobals "MOST_CELLS" = some (some (.int 5 tk_MOST_CELLS)))
    (a45 : PySem.W.nsIn K mainGlobals "BadPiece" = some (some (.ref A45)))
    (x45 : PySem.W.excIn K A45 [.type "ValueError", .type "Exception", .type "BaseException", .type "object"] "ValueError.__new__" = true)
    (k45 : PySem.W.keepIn K (.ref A45) = true)
    (s45 : PySem.W.subIn K (.ref A45) (.type "BaseException") = some true)
    (t45 : PySem.W.typeIn K (.ref A45) = some (.type "type"))
    (i45 : PySem.W.isClsIn K A45 = true)
    (e45 : PySem.W.subIn K (.ref A45) (.ref A45) = some true)
    (hh : PySem.W.codeHdIn K cl PL = true)
    (nT : K.lookup PL = none)
    (hP : h.get? PL = some (PySem.W.tabObj #[])) (lawh : LawT) : LamX.LawAtS PySem.Challenge.rw_fitfloors_k00_whole_pieces w K (L2.CX PySem.Challenge.pw_fitfloors_k00_whole_pieces w) 11 63 "script" mg f0 h := by
  have e := hfa.symm.trans (PySem.W.mg_of X G a43)
  cases e
  let fa : FA := ⟨fun i => match i with | 0 => A0 | 1 => A1 | 2 => A2 | 3 => A3 | 4 => A4 | 5 => A5 | 6 => A6 | 7 => A7 | 8 => A8 | 9 => A9 | 10 => A10 | 11 => A11 | 12 => A12 | 13 => A13 | 14 => A14 | 15 => A15 | 16 => A16 | 17 => A17 | 18 => A18 | 19 => A19 | 20 => A20 | 21 => A21 | 22 => A22 | 23 => A23 | 24 => A24 | 25 => A25 | 26 => A26 | 39 => A39 | 40 => A40 | 41 => A41 | 42 => A42 | 43 => f0 | 45 => A45 | _ => 0, w, PL, none⟩
  let fd : Nat → FuncData := fun i => match i with | 24 => (PySem.W.fnOf "_law_alike" "_law_alike" (defArgs (topS 32)) (defBody (topS 32)) (defScope (topS 32)) .none kV24 dc24 pm24 an24 cd24 ct24) | 25 => (PySem.W.fnOf "_law_settle" "_law_settle" (defArgs (topS 33)) (defBody (topS 33)) (defScope (topS 33)) .none kV25 dc25 pm25 an25 cd25 ct25) | 26 => (PySem.W.fnOf "_law_forms" "_law_forms" (defArgs (topS 34)) (defBody (topS 34)) (defScope (topS 34)) .none kV26 dc26 pm26 an26 cd26 ct26) | 41 => (PySem.W.fnOf "_law_all_pieces" "_law_all_pieces" (defArgs (topS 49)) (defBody (topS 49)) (defScope (topS 49)) .none kV41 dc41 pm41 an41 cd41 ct41) | 22 => (PySem.W.fnOf "_law_taken" "_law_taken" (defArgs (topS 30)) (defBody (topS 30)) (defScope (topS 30)) .none kV22 dc22 pm22 an22 cd22 ct22) | 23 => (PySem.W.fnOf "_law_pick" "_law_pick" (defArgs (topS 31)) (defBody (topS 31)) (defScope (topS 31)) .none kV23 dc23 pm23 an23 cd23 ct23) | 39 => (PySem.W.fnOf "_law_grown" "_law_grown" (defArgs (topS 47)) (defBody (topS 47)) (defScope (topS 47)) .none kV39 dc39 pm39 an39 cd39 ct39) | 40 => (PySem.W.fnOf "_law_is_piece" "_law_is_piece" (defArgs (topS 48)) (defBody (topS 48)) (defScope (topS 48)) .none kV40 dc40 pm40 an40 cd40 ct40) | 18 => (PySem.W.fnOf "_cells_beside" "_cells_beside" (defArgs (topS 25)) (defBody (topS 25)) (defScope (topS 25)) .none kV18 dc18 pm18 an18 cd18 ct18) | 19 => (PySem.W.fnOf "_hangs_together" "_hangs_together" (defArgs (topS 26)) (defBody (topS 26)) (defScope (topS 26)) .none kV19 dc19 pm19 an19 cd19 ct19) | 6 => (PySem.W.fnOf "is_an_integer" "is_an_integer" (defArgs (topS 11)) (defBody (topS 11)) (defScope (topS 11)) .none kV6 dc6 pm6 an6 cd6 ct6) | 9 => (PySem.W.fnOf "_is_pair_of_integers" "_is_pair_of_integers" (defArgs (topS 14)) (defBody (topS 14)) (defScope (topS 14)) .none kV9 dc9 pm9 an9 cd9 ct9) | 8 => (PySem.W.fnOf "is_cell" "is_cell" (defArgs (topS 13)) (defBody (topS 13)) (defScope (topS 13)) .none kV8 dc8 pm8 an8 cd8 ct8) | 2 => (PySem.W.fnOf "moved_home" "moved_home" (defArgs (topS 6)) (defBody (topS 6)) (defScope (topS 6)) .none kV2 dc2 pm2 an2 cd2 ct2) | 3 => (PySem.W.fnOf "set_home" "set_home" (defArgs (topS 7)) (defBody (topS 7)) (defScope (topS 7)) .none kV3 dc3 pm3 an3 cd3 ct3) | 10 => (PySem.W.fnOf "is_piece" "is_piece" (defArgs (topS 17)) (defBody (topS 17)) (defScope (topS 17)) .none kV10 dc10 pm10 an10 cd10 ct10) | 17 => (PySem.W.fnOf "_check_piece" "_check_piece" (defArgs (topS 24)) (defBody (topS 24)) (defScope (topS 24)) .none kV17 dc17 pm17 an17 cd17 ct17) | 0 => (PySem.W.fnOf "turned_cells" "turned_cells" (defArgs (topS 4)) (defBody (topS 4)) (defScope (topS 4)) .none kV0 dc0 pm0 an0 cd0 ct0) | 11 => (PySem.W.fnOf "turned" "turned" (defArgs (topS 18)) (defBody (topS 18)) (defScope (topS 18)) .none kV11 dc11 pm11 an11 cd11 ct11) | 1 => (PySem.W.fnOf "flipped_cells" "flipped_cells" (defArgs (topS 5)) (defBody (topS 5)) (defScope (topS 5)) .none kV1 dc1 pm1 an1 cd1 ct1) | 12 => (PySem.W.fnOf "flipped" "flipped" (defArgs (topS 19)) (defBody (topS 19)) (defScope (topS 19)) .none kV12 dc12 pm12 an12 cd12 ct12) | 5 => (PySem.W.fnOf "_four_turnings" "_four_turnings" (defArgs (topS 9)) (defBody (topS 9)) (defScope (topS 9)) .none kV5 dc5 pm5 an5 cd5 ct5) | 4 => (PySem.W.fnOf "all_turnings" "all_turnings" (defArgs (topS 8)) (defBody (topS 8)) (defScope (topS 8)) .none kV4 dc4 pm4 an4 cd4 ct4) | 13 => (PySem.W.fnOf "forms" "forms" (defArgs (topS 20)) (defBody (topS 20)) (defScope (topS 20)) .none kV13 dc13 pm13 an13 cd13 ct13) | 14 => (PySem.W.fnOf "least_form" "least_form" (defArgs (topS 21)) (defBody (topS 21)) (defScope (topS 21)) .none kV14 dc14 pm14 an14 cd14 ct14) | 20 => (PySem.W.fnOf "_one_cell_more" "_one_cell_more" (defArgs (topS 27)) (defBody (topS 27)) (defScope (topS 27)) .none kV20 dc20 pm20 an20 cd20 ct20) | 7 => (PySem.W.fnOf "is_between" "is_between" (defArgs (topS 12)) (defBody (topS 12)) (defScope (topS 12)) .none kV7 dc7 pm7 an7 cd7 ct7) | 15 => (PySem.W.fnOf "pieces_of" "pieces_of" (defArgs (topS 22)) (defBody (topS 22)) (defScope (topS 22)) .none kV15 dc15 pm15 an15 cd15 ct15) | 21 => (PySem.W.fnOf "_drawn_row" "_drawn_row" (defArgs (topS 28)) (defBody (topS 28)) (defScope (topS 28)) .none kV21 dc21 pm21 an21 cd21 ct21) | 16 => (PySem.W.fnOf "drawn" "drawn" (defArgs (topS 23)) (defBody (topS 23)) (defScope (topS 23)) .none kV16 dc16 pm16 an16 cd16 ct16) | 42 => (PySem.W.fnOf "_law_refused" "_law_refused" (defArgs (topS 50)) (defBody (topS 50)) (defScope (topS 50)) .none kV42 dc42 pm42 an42 cd42 ct42) | 43 => (PySem.W.fnOf "law" "law" (defArgs (topS 51)) (defBody (topS 51)) (defScope (topS 51)) .none kV43 dc43 pm43 an43 (.ref cl) ct43) | _ => (PySem.W.fnOf "law" "law" (defArgs (topS 51)) (defBody (topS 51)) (defScope (topS 51)) .none kV43 dc43 pm43 an43 (.ref cl) ct43)
  have Z : Facts K mg fa.f fd := { g__law_alike := PySem.W.mg_of X G a24, F__law_alike := (fun_mk (st := topS 32) l24 c24 k24), k__law_alike := k24, b__law_alike := (fun_mk (st := topS 32) l24 c24 k24).binds (ps := ["found", "due"]) fun _ _ _ _ _ _ us hl => match us, hl with | [_, _], _ => rfl, g__law_settle := PySem.W.mg_of X G a25, F__law_settle := (fun_mk (st := topS 33) l25 c25 k25), k__law_settle := k25, b__law_settle := (fun_mk (st := topS 33) l25 c25 k25).binds (ps := ["cells"]) fun _ _ _ _ _ _ us hl => match us, hl with | [_], _ => rfl, g__law_forms := PySem.W.mg_of X G a26, F__law_forms := (fun_mk (st := topS 34) l26 c26 k26), k__law_forms := k26, b__law_forms := (fun_mk (st := topS 34) l26 c26 k26).binds (ps := ["piece", "is_flipped"]) fun _ _ _ _ _ _ us hl => match us, hl with | [_, _], _ => rfl, g__law_all_pieces := PySem.W.mg_of X G a41, F__law_all_pieces := (fun_mk (st := topS 49) l41 c41 k41), k__law_all_pieces := k41, b__law_all_pieces := (fun_mk (st := topS 49) l41 c41 k41).binds (ps := ["many"]) fun _ _ _ _ _ _ us hl => match us, hl with | [_], _ => rfl, g__law_taken := PySem.W.mg_of X G a22, F__law_taken := (fun_mk (st := topS 30) l22 c22 k22), k__law_taken := k22, b__law_taken := (fun_mk (st := topS 30) l22 c22 k22).binds (ps := ["row", "many"]) fun _ _ _ _ _ _ us hl => match us, hl with | [_, _], _ => rfl, g__law_pick := PySem.W.mg_of X G a23, F__law_pick := (fun_mk (st := topS 31) l23 c23 k23), k__law_pick := k23, b__law_pick := (fun_mk (st := topS 31) l23 c23 k23).binds (ps := ["row", "things"]) fun _ _ _ _ _ _ us hl => match us, hl with | [_, _], _ => rfl, g__law_grown := PySem.W.mg_of X G a39, F__law_grown := (fun_mk (st := topS 47) l39 c39 k39), k__law_grown := k39, b__law_grown := (fun_mk (st := topS 47) l39 c39 k39).binds (ps := ["row", "most"]) fun _ _ _ _ _ _ us hl => match us, hl with | [_, _], _ => rfl, g__law_is_piece := PySem.W.mg_of X G a40, F__law_is_piece := (fun_mk (st := topS 48) l40 c40 k40), k__law_is_piece := k40, b__law_is_piece := (fun_mk (st := topS 48) l40 c40 k40).binds (ps := ["value"]) fun _ _ _ _ _ _ us hl => match us, hl with | [_], _ => rfl, g__cells_beside := PySem.W.mg_of X G a18, F__cells_beside := (fun_mk (st := topS 25) l18 c18 k18), k__cells_beside := k18, b__cells_beside := (fun_mk (st := topS 25) l18 c18 k18).binds (ps := ["cell"]) fun _ _ _ _ _ _ us hl => match us, hl with | [_], _ => rfl, g__hangs_together := PySem.W.mg_of X G a19, F__hangs_together := (fun_mk (st := topS 26) l19 c19 k19), k__hangs_together := k19, b__hangs_together := (fun_mk (st := topS 26) l19 c19 k19).binds (ps := ["cells"]) fun _ _ _ _ _ _ us hl => match us, hl with | [_], _ => rfl, g_is_an_integer := PySem.W.mg_of X G a6, F_is_an_integer := (fun_mk (st := topS 11) l6 c6 k6), k_is_an_integer := k6, b_is_an_integer := (fun_mk (st := topS 11) l6 c6 k6).binds (ps := ["value"]) fun _ _ _ _ _ _ us hl => match us, hl with | [_], _ => rfl, g__is_pair_of_integers := PySem.W.mg_of X G a9, F__is_pair_of_integers := (fun_mk (st := topS 14) l9 c9 k9), k__is_pair_of_integers := k9, b__is_pair_of_integers := (fun_mk (st := topS 14) l9 c9 k9).binds (ps := ["value"]) fun _ _ _ _ _ _ us hl => match us, hl with | [_], _ => rfl, g_is_cell := PySem.W.mg_of X G a8, F_is_cell := (fun_mk (st := topS 13) l8 c8 k8), k_is_cell := k8, b_is_cell := (fun_mk (st := topS 13) l8 c8 k8).binds (ps := ["value"]) fun _ _ _ _ _ _ us hl => match us, hl with | [_], _ => rfl, g_moved_home := PySem.W.mg_of X G a2, F_moved_home := (fun_mk (st := topS 6) l2 c2 k2), k_moved_home := k2, b_moved_home := (fun_mk (st := topS 6) l2 c2 k2).binds (ps := ["cells"]) fun _ _ _ _ _ _ us hl => match us, hl with | [_], _ => rfl, g_set_home := PySem.W.mg_of X G a3, F_set_home := (fun_mk (st := topS 7) l3 c3 k3), k_set_home := k3, b_set_home := (fun_mk (st := topS 7) l3 c3 k3).binds (ps := ["cells"]) fun _ _ _ _ _ _ us hl => match us, hl with | [_], _ => rfl, g_is_piece := PySem.W.mg_of X G a10, F_is_piece := (fun_mk (st := topS 17) l10 c10 k10), k_is_piece := k10, b_is_piece := (fun_mk (st := topS 17) l10 c10 k10).binds (ps := ["value"]) fun _ _ _ _ _ _ us hl => match us, hl with | [_], _ => rfl, g__check_piece := PySem.W.mg_of X G a17, F__check_piece := (fun_mk (st := topS 24) l17 c17 k17), k__check_piece := k17, b__check_piece := (fun_mk (st := topS 24) l17 c17 k17).binds (ps := ["value"]) fun _ _ _ _ _ _ us hl => match us, hl with | [_], _ => rfl, g_turned_cells := PySem.W.mg_of X G a0, F_turned_cells := (fun_mk (st := topS 4) l0 c0 k0), k_turned_cells := k0, b_turned_cells := (fun_mk (st := topS 4) l0 c0 k0).binds (ps := ["cells"]) fun _ _ _ _ _ _ us hl => match us, hl with | [_], _ => rfl, g_turned := PySem.W.mg_of X G a11, F_turned := (fun_mk (st := topS 18) l11 c11 k11), k_turned := k11, b_turned := (fun_mk (st := topS 18) l11 c11 k11).binds (ps := ["piece"]) fun _ _ _ _ _ _ us hl => match us, hl with | [_], _ => rfl, g_flipped_cells := PySem.W.mg_of X G a1, F_flipped_cells := (fun_mk (st := topS 5) l1 c1 k1), k_flipped_cells := k1, b_flipped_cells := (fun_mk (st := topS 5) l1 c1 k1).binds (ps := ["cells"]) fun _ _ _ _ _ _ us hl => match us, hl with | [_], _ => rfl, g_flipped := PySem.W.mg_of X G a12, F_flipped := (fun_mk (st := topS 19) l12 c12 k12), k_flipped := k12, b_flipped := (fun_mk (st := topS 19) l12 c12 k12).binds (ps := ["piece"]) fun _ _ _ _ _ _ us hl => match us, hl with | [_], _ => rfl, g__four_turnings := PySem.W.mg_of X G a5, F__four_turnings := (fun_mk (st := topS 9) l5 c5 k5), k__four_turnings := k5, b__four_turnings := (fun_mk (st := topS 9) l5 c5 k5).binds (ps := ["cells"]) fun _ _ _ _ _ _ us hl => match us, hl with | [_], _ => rfl, g_all_turnings := PySem.W.mg_of X G a4, F_all_turnings := (fun_mk (st := topS 8) l4 c4 k4), k_all_turnings := k4, b_all_turnings := (fun_mk (st := topS 8) l4 c4 k4).binds (ps := ["cells", "is_flipped"]) fun _ _ _ _ _ _ us hl => match us, hl with | [_, _], _ => rfl, g_forms := PySem.W.mg_of X G a13, F_forms := (fun_mk (st := topS 20) l13 c13 k13), k_forms := k13, b_forms := (fun_mk (st := topS 20) l13 c13 k13).binds (ps := ["piece", "is_flipped"]) fun _ _ _ _ _ _ us hl => match us, hl with | [_, _], _ => rfl, g_least_form := PySem.W.mg_of X G a14, F_least_form := (fun_mk (st := topS 21) l14 c14 k14), k_least_form := k14, b_least_form := (fun_mk (st := topS 21) l14 c14 k14).binds (ps := ["piece"]) fun _ _ _ _ _ _ us hl => match us, hl with | [_], _ => rfl, g__one_cell_more := PySem.W.mg_of X G a20, F__one_cell_more := (fun_mk (st := topS 27) l20 c20 k20), k__one_cell_more := k20, b__one_cell_more := (fun_mk (st := topS 27) l20 c20 k20).binds (ps := ["pieces"]) fun _ _ _ _ _ _ us hl => match us, hl with | [_], _ => rfl, g_is_between := PySem.W.mg_of X G a7, F_is_between := (fun_mk (st := topS 12) l7 c7 k7), k_is_between := k7, b_is_between := (fun_mk (st := topS 12) l7 c7 k7).binds (ps := ["value", "least", "most"]) fun _ _ _ _ _ _ us hl => match us, hl with | [_, _, _], _ => rfl, g_pieces_of := PySem.W.mg_of X G a15, F_pieces_of := (fun_mk (st := topS 22) l15 c15 k15), k_pieces_of := k15, b_pieces_of := (fun_mk (st := topS 22) l15 c15 k15).binds (ps := ["many"]) fun _ _ _ _ _ _ us hl => match us, hl with | [_], _ => rfl, g__drawn_row := PySem.W.mg_of X G a21, F__drawn_row := (fun_mk (st := topS 28) l21 c21 k21), k__drawn_row := k21, b__drawn_row := (fun_mk (st := topS 28) l21 c21 k21).binds (ps := ["piece", "row", "wide"]) fun _ _ _ _ _ _ us hl => match us, hl with | [_, _, _], _ => rfl, g_drawn := PySem.W.mg_of X G a16, F_drawn := (fun_mk (st := topS 23) l16 c16 k16), k_drawn := k16, b_drawn := (fun_mk (st := topS 23) l16 c16 k16).binds (ps := ["piece"]) fun _ _ _ _ _ _ us hl => match us, hl with | [_], _ => rfl, g__law_refused := PySem.W.mg_of X G a42, F__law_refused := (fun_mk (st := topS 50) l42 c42 k42), k__law_refused := k42, b__law_refused := (fun_mk (st := topS 50) l42 c42 k42).binds (ps := ["ask", "value"]) fun _ _ _ _ _ _ us hl => match us, hl with | [_, _], _ => rfl, g_law := PySem.W.mg_of X G a43, F_law := (fun_mk (st := topS 51) l43 c43 k43), k_law := k43, b_law := (fun_mk (st := topS 51) l43 c43 k43).binds (ps := ["script"]) fun _ _ _ _ _ _ us hl => match us, hl with | [_], _ => rfl, n_abs := PySem.W.mg_none_of X G z_abs, n_all := PySem.W.mg_none_of X G z_all, n_bool := PySem.W.mg_none_of X G z_bool, n_int := PySem.W.mg_none_of X G z_int, n_isinstance := PySem.W.mg_none_of X G z_isinstance, n_len := PySem.W.mg_none_of X G z_len, n_list := PySem.W.mg_none_of X G z_list, n_max := PySem.W.mg_none_of X G z_max, n_min := PySem.W.mg_none_of X G z_min, n_range := PySem.W.mg_none_of X G z_range, n_set := PySem.W.mg_none_of X G z_set, n_sorted := PySem.W.mg_none_of X G z_sorted, n_str := PySem.W.mg_none_of X G z_str, n_tuple := PySem.W.mg_none_of X G z_tuple, c_MOST_CELLS := ⟨_, PySem.W.mg_of X G y_MOST_CELLS⟩, g_BadPiece := PySem.W.mg_of X G a45, x_BadPiece := x45, k_BadPiece := k45, s_BadPiece := s45, t_BadPiece := t45, e_BadPiece := exm_own s45 i45 t45 e45 }
  have FC : FunC K "law" "law" (topS 51) (fa 43) cl (fd 43) := ⟨⟨_, _, _, _, _, _, _, _, rfl, l43, c43⟩⟩
  refine ⟨fd 43, [(cl, PL)], spD K fa 1 F_law, fun p hp => ?_, fun p hp => ?_, fun p hp => ?_, fun s u => .of_eq rfl, fun H a ns hl hb hH hS => ?_, fun base _ _ tb => ok_law Z rfl rfl FC (tb (cl, PL) List.mem_cons_self)⟩
  · rw [List.mem_singleton.mp hp]; exact hP
  · rw [List.mem_singleton.mp hp]; exact nT
  · rw [List.mem_singleton.mp hp]; exact PySem.W.codeHd_of_K X hh
  · have hPL : H PL = some (.tbl #[]) := hH (cl, PL) List.mem_cons_self
    obtain ⟨S', hlaw⟩ := lawh ns hl
    refine ⟨rfl, [], [PL], [.d (.lst (ns.map D.int))], [.tab "law.<locals>.<lambda>"], ⟨by simp, rfl, fun i a c e1 e2 => ?_, fun a ha => by cases ha⟩, .cons (script_rep hPL hS) .nil, ?_⟩
    · cases i with
      | zero =>
        cases e1
        cases e2
        exact ⟨rfl, #[], hPL, True.intro, fun pos cv hc => by
          have z : codeAmong pos [] = some cv := hc
          simp [codeAmong] at z⟩
      | succ i => simp at e1
    · rw [hlaw]
      intro v m' H' _ _ r
      have r : Rep K fa (fz (m' ++ []) H') v (.bl true) := r
      cases r
      rfl
end DL
open PySem PySem.W PyProof.Rows
namespace DL
open PySem PySem.Spec PyProof.Rows L2 StX
abbrev Pt := Int × Int
def cellD (p : Pt) : D := .tup [.int p.1, .int p.2]
def cellsD : List Pt → List D
  | [] => []
  | p :: ps => cellD p :: cellsD ps
def ptLe (a b : Pt) : Bool := decide (a.1 < b.1) || (decide (a.1 = b.1) && decide (a.2 ≤ b.2))
def insN (x : Pt) : List Pt → List Pt
  | [] => [x]
  | y :: ys => bif ptLe x y then x :: y :: ys else y :: insN x ys
def sortN : List Pt → List Pt
  | [] => []
  | x :: xs => insN x (sortN xs)
def besideN (p : Pt) : List Pt := [(p.1 - 1, p.2), (p.1, p.2 - 1), (p.1, p.2 + 1), (p.1 + 1, p.2)]
def hasN (x : Pt) : List Pt → Bool
  | [] => false
  | y :: ys => (decide (x.1 = y.1) && decide (x.2 = y.2)) || hasN x ys
def keepN (l : List Pt) : List Pt → List Pt
  | [] => []
  | x :: xs => bif hasN x l then keepN l xs else x :: keepN l xs
def nearG (l : List Pt) : List Pt → List Pt → List Pt
  | [], near => near
  | one :: r, near => nearG l r (near ++ keepN (l ++ near) (besideN one))
def nearN (l : List Pt) : List Pt := nearG l l []
def stepsN (l : List Pt) : List Pt → List (List Pt)
  | [] => []
  | x :: xs => (l ++ [x]) :: stepsN l xs
def allSteps : List (List Pt) → List (List Pt)
  | [] => []
  | l :: ls => stepsN l (sortN (nearN l)) ++ allSteps ls
def reach : Nat → List (List Pt)
  | 0 => [[(0, 0)]]
  | t + 1 => allSteps (reach t)
/-! ### steps of a reading -/
theorem sSeq_nx {f g : SD} {rho rho' : Rho} {S S' : Stor} (h : f rho S = .nx rho' S') : sSeq f g rho S = g rho' S' := by
  unfold sSeq
  rw [h]
theorem sSeq_rt {f g : SD} {rho : Rho} {S S' : Stor} {w : W} (h : f rho S = .rt w S') : sSeq f g rho S = .rt w S' := by
  unfold sSeq
  rw [h]
theorem sIf_t {c : Den Bool} {f g : SD} {rho : Rho} {S S' : Stor} {b : Bool} (h : c rho S = .ok b S') (hb : b = true) : sIf c f g rho S = f rho S' := by
  unfold sIf
  rw [h, hb]
  rfl
theorem sIf_f {c : Den Bool} {f g : SD} {rho : Rho} {S S' : Stor} {b : Bool} (h : c rho S = .ok b S') (hb : b = false) : sIf c f g rho S = g rho S' := by
  unfold sIf
  rw [h, hb]
  rfl
theorem sSet_ok {i : Nat} {f : Den W} {rho : Rho} {S S' : Stor} {w : W} (h : f rho S = .ok w S') : sSet i f rho S = .nx (rho.set i (some w)) S' := by
  unfold sSet
  rw [h]
  rfl
theorem sRet_ok {f : Den W} {rho : Rho} {S S' : Stor} {w : W} (h : f rho S = .ok w S') : sRet f rho S = .rt w S' := by
  unfold sRet
  rw [h]
  rfl
theorem sSub_ok {f fi fe : Den W} {rho : Rho} {S S' : Stor} {w : W} (h : fe rho S = .ok w S') : sSub f fi fe rho S = subK f fi rho w S' := by
  unfold sSub
  rw [h]
  rfl
theorem gII_ok {c : Int → Int → Bool} {f : Int → Int → D} {i j : Int} {S : Stor} (h : c i j = true) : gII c f (.d (.int i)) (.d (.int j)) S = .ok (.d (f i j)) S := by
  show (if c i j = true then _ else _) = _
  rw [if_pos h]
theorem dOp_ok {g : W → W → Stor → Res W} {f f' : Den W} {rho : Rho} {S S1 S2 : Stor} {a b : W} (h1 : f rho S = .ok a S1) (h2 : f' rho S1 = .ok b S2) : dOp g f f' rho S = g a b S2 := by
  unfold dOp
  rw [h1]
  show Res.bind (f' rho S1) _ = _
  rw [h2]
  rfl
theorem dCall1_ok {g : List W → Stor → Res W} {f : Den W} {rho : Rho} {S S1 : Stor} {w : W} (h : f rho S = .ok w S1) : dCall g (dCons f dNil) rho S = g [w] S1 := by
  unfold dCall dCons
  rw [h]
  rfl
theorem gMul_ok {i j : Int} {S : Stor} (h : -(2 ^ 64) < j ∧ j < 2 ^ 64) : gMul (.d (.int i)) (.d (.int j)) S = .ok (.d (.int (i * j))) S := gII_ok (by
  rw [decide_eq_true h.1, decide_eq_true h.2]
  simp)
/-! ### the law's own chance -/
abbrev rowS (q : Str) (sc : List D) (a b c : Int) (rest : Stor) : Stor := .tab q :: .lst [.lst sc, .int a, .int b, .int c] :: rest
abbrev rhoT (n : Int) (v : Option W) (w : Option W) : Rho := [some (.r 1), some (.d (.int n)), v, w]
theorem taken_big {q : Str} {sc : List D} {a b c n : Int} {rest : Stor} (hc : c > 0) (hn : n ≠ 0) (hs : n.natAbs < 1073741824) :
    body__law_taken (rhoT n none none) (rowS q sc a b c rest) = .rt (.d (.int (c.fmod n))) (rowS q sc a b (c.fdiv n) rest) := by
  have hd : decide (n ≠ 0) = true := decide_eq_true hn
  have hd2 : (decide (n ≠ 0) && decide (n.natAbs < 1073741824)) = true := by rw [hd, decide_eq_true hs] <;> rfl
  refine sSeq_rt ?_
  refine (sIf_t (b := decide (c > 0)) (S' := rowS q sc a b c rest) rfl (decide_eq_true hc)).trans ?_
  refine (sSeq_nx (sSet_ok ((show _ = gMod (.d (.int c)) (.d (.int n)) (rowS q sc a b c rest) from rfl).trans (gII_ok hd)))).trans ?_
  refine (sSeq_nx ((sSub_ok ((show _ = gDiv (.d (.int c)) (.d (.int n)) (rowS q sc a b c rest) from rfl).trans (gII_ok hd2))).trans (show _ = RS.nx (rhoT n (some (.d (.int (c.fmod n)))) none) (rowS q sc a b (c.fdiv n) rest) from rfl))).trans ?_
  rfl
theorem taken_end {q : Str} {sc : List D} {a b c n : Int} {rest : Stor} (hc : ¬ c > 0) (hl : a + 1 > sc.length) (hn : n ≠ 0) :
    body__law_taken (rhoT n none none) (rowS q sc a b c rest) = .rt (.d (.int (Int.fmod (Int.fdiv (Int.fmod (b * 48271 + 11) 2147483647) 7) n))) (rowS q sc (a + 1) (Int.fmod (b * 48271 + 11) 2147483647) c rest) := by
  have hd : decide (n ≠ 0) = true := decide_eq_true hn
  refine (sSeq_nx ((sIf_f (b := decide (c > 0)) (S' := rowS q sc a b c rest) rfl (decide_eq_false hc)).trans rfl)).trans ?_
  refine (sSeq_nx (rho' := rhoT n none none) (S' := rowS q sc (a + 1) b c rest) (by rfl)).trans ?_
  refine sSeq_rt ?_
  refine (sIf_t (b := decide (a + 1 > (sc.length : Int))) (S' := rowS q sc (a + 1) b c rest) rfl (decide_eq_true hl)).trans ?_
  have m1 : dOp gMul (dOp gIx (dVar 0) (dC (.int 2))) (dC (.int 48271)) (rhoT n none none) (rowS q sc (a + 1) b c rest) = .ok (.d (.int (b * 48271))) (rowS q sc (a + 1) b c rest) := (show _ = gMul (.d (.int b)) (.d (.int 48271)) (rowS q sc (a + 1) b c rest) from rfl).trans (gMul_ok (by decide))
  refine (sSeq_nx (rho' := rhoT n none none) (S' := rowS q sc (a + 1) (Int.fmod (b * 48271 + 11) 2147483647) c rest) ?_).trans ?_
  · refine (sSub_ok (w := .d (.int (Int.fmod (b * 48271 + 11) 2147483647))) (S' := rowS q sc (a + 1) b c rest) ?_).trans (by rfl)
    refine (dOp_ok (a := .d (.int (b * 48271 + 11))) (b := .d (.int 2147483647)) (S1 := rowS q sc (a + 1) b c rest) (S2 := rowS q sc (a + 1) b c rest) ?_ rfl).trans (by rfl)
    refine (dCall1_ok (w := .d (.int (b * 48271 + 11))) (S1 := rowS q sc (a + 1) b c rest) ?_).trans (by rfl)
    exact (dOp_ok (b := .d (.int 11)) (S2 := rowS q sc (a + 1) b c rest) m1 rfl).trans (by rfl)
  exact sRet_ok ((show _ = gMod (.d (.int (Int.fdiv (Int.fmod (b * 48271 + 11) 2147483647) 7))) (.d (.int n)) (rowS q sc (a + 1) (Int.fmod (b * 48271 + 11) 2147483647) c rest) from rfl).trans (gII_ok hd))
theorem taken_cell {q : Str} {sc : List D} {a b c n x : Int} {rest : Stor} (hc : ¬ c > 0) (hl : ¬ a + 1 > sc.length) (hx : atI sc (a + 1 - 1) = some (.int x)) (hn : n ≠ 0) (hs : n.natAbs < 1073741824) :
    body__law_taken (rhoT n none none) (rowS q sc a b c rest) = .rt (.d (.int (x.fmod n))) (rowS q sc (a + 1) (Int.fmod (b * 48271 + x + 11) 2147483647) (if x ≥ 10 ^ 18 then x.fdiv n else c) rest) := by
  have hd : decide (n ≠ 0) = true := decide_eq_true hn
  have hd2 : (decide (n ≠ 0) && decide (n.natAbs < 1073741824)) = true := by rw [hd, decide_eq_true hs] <;> rfl
  refine (sSeq_nx ((sIf_f (b := decide (c > 0)) (S' := rowS q sc a b c rest) rfl (decide_eq_false hc)).trans rfl)).trans ?_
  refine (sSeq_nx (rho' := rhoT n none none) (S' := rowS q sc (a + 1) b c rest) (by rfl)).trans ?_
  refine (sSeq_nx ((sIf_f (b := decide (a + 1 > (sc.length : Int))) (S' := rowS q sc (a + 1) b c rest) rfl (decide_eq_false hl)).trans rfl)).trans ?_
  have e1 : dOp gIx (dOp gIx (dVar 0) (dC (.int 0))) (dOp gSub (dOp gIx (dVar 0) (dC (.int 1))) (dC (.int 1))) (rhoT n none none) (rowS q sc (a + 1) b c rest) = .ok (.d (.int x)) (rowS q sc (a + 1) b c rest) := by
    show (match atI sc (a + 1 - 1) with | some d => Res.ok (W.d d) (rowS q sc (a + 1) b c rest) | none => .bad) = _
    rw [hx]
  refine (sSeq_nx (sSet_ok e1)).trans ?_
  have m1 : dOp gMul (dOp gIx (dVar 0) (dC (.int 2))) (dC (.int 48271)) (rhoT n none (some (.d (.int x)))) (rowS q sc (a + 1) b c rest) = .ok (.d (.int (b * 48271))) (rowS q sc (a + 1) b c rest) := (show _ = gMul (.d (.int b)) (.d (.int 48271)) (rowS q sc (a + 1) b c rest) from rfl).trans (gMul_ok (by decide))
  refine (sSeq_nx (rho' := rhoT n none (some (.d (.int x)))) (S' := rowS q sc (a + 1) (Int.fmod (b * 48271 + x + 11) 2147483647) c rest) ?_).trans ?_
  · refine (sSub_ok (w := .d (.int (Int.fmod (b * 48271 + x + 11) 2147483647))) (S' := rowS q sc (a + 1) b c rest) ?_).trans (by rfl)
    refine (dOp_ok (a := .d (.int (b * 48271 + x + 11))) (b := .d (.int 2147483647)) (S1 := rowS q sc (a + 1) b c rest) (S2 := rowS q sc (a + 1) b c rest) ?_ rfl).trans (by rfl)
    refine (dCall1_ok (w := .d (.int (b * 48271 + x + 11))) (S1 := rowS q sc (a + 1) b c rest) ?_).trans (by rfl)
    refine (dOp_ok (a := .d (.int (b * 48271 + x))) (b := .d (.int 11)) (S1 := rowS q sc (a + 1) b c rest) (S2 := rowS q sc (a + 1) b c rest) ?_ rfl).trans (by rfl)
    exact (dOp_ok (b := .d (.int x)) (S2 := rowS q sc (a + 1) b c rest) m1 rfl).trans (by rfl)
  by_cases hb : x ≥ 10 ^ 18
  · rw [if_pos hb]
    refine (sSeq_nx (rho' := rhoT n none (some (.d (.int x)))) (S' := rowS q sc (a + 1) (Int.fmod (b * 48271 + x + 11) 2147483647) (x.fdiv n) rest) ?_).trans ?_
    · refine (sIf_t (b := decide (x ≥ 10 ^ 18)) (S' := rowS q sc (a + 1) (Int.fmod (b * 48271 + x + 11) 2147483647) c rest) rfl (decide_eq_true hb)).trans ?_
      exact (sSub_ok ((show _ = gDiv (.d (.int x)) (.d (.int n)) (rowS q sc (a + 1) (Int.fmod (b * 48271 + x + 11) 2147483647) c rest) from rfl).trans (gII_ok hd2))).trans rfl
    · exact sRet_ok ((show _ = gMod (.d (.int x)) (.d (.int n)) (rowS q sc (a + 1) (Int.fmod (b * 48271 + x + 11) 2147483647) (x.fdiv n) rest) from rfl).trans (gII_ok hd))
  · rw [if_neg hb]
    refine (sSeq_nx (rho' := rhoT n none (some (.d (.int x)))) (S' := rowS q sc (a + 1) (Int.fmod (b * 48271 + x + 11) 2147483647) c rest) ?_).trans ?_
    · exact (sIf_f (b := decide (x ≥ 10 ^ 18)) (S' := rowS q sc (a + 1) (Int.fmod (b * 48271 + x + 11) 2147483647) c rest) rfl (decide_eq_false hb)).trans rfl
    · exact sRet_ok ((show _ = gMod (.d (.int x)) (.d (.int n)) (rowS q sc (a + 1) (Int.fmod (b * 48271 + x + 11) 2147483647) c rest) from rfl).trans (gII_ok hd))

theorem at_map {ns : List Int} {a : Int} (h0 : 0 ≤ a) (h1 : a < ns.length) : ∃ x, atI (ns.map D.int) a = some (.int x) := by
  obtain ⟨j, rfl⟩ := Int.eq_ofNat_of_zero_le h0
  have hj : j < ns.length := by omega
  exact ⟨ns[j], atI_nat (by rw [List.getElem?_map, List.getElem?_eq_getElem hj] <;> rfl)⟩
/-- a chance of n -/
theorem taken {q : Str} {ns : List Int} {a b c n : Int} {rest : Stor} (ha : 0 ≤ a) (hn : 0 < n) (hs : n < 1000) :
    ∃ v a' b' c', F__law_taken [.r 1, .d (.int n)] (rowS q (ns.map D.int) a b c rest) = .ok (.d (.int v)) (rowS q (ns.map D.int) a' b' c' rest) ∧ 0 ≤ v ∧ v < n ∧ 0 ≤ a' := by
  have n0 : n ≠ 0 := by omega
  have n1 : n.natAbs < 1073741824 := by omega
  have run : ∀ {v : Int} {S' : Stor}, body__law_taken (rhoT n none none) (rowS q (ns.map D.int) a b c rest) = .rt (.d (.int v)) S' → F__law_taken [.r 1, .d (.int n)] (rowS q (ns.map D.int) a b c rest) = .ok (.d (.int v)) S' := fun {v S'} e => by
    show (match body__law_taken (rhoT n none none) (rowS q (ns.map D.int) a b c rest) with | .nx _ S' => Res.ok (W.d D.non) S' | .rt w S' => .ok w S' | .exc e _ S' => .exc e S' | _ => .bad) = _
    rw [e]
  by_cases hc : c > 0
  · exact ⟨_, a, b, _, run (taken_big hc n0 n1), Int.fmod_nonneg_of_pos c hn, Int.fmod_lt_of_pos c hn, ha⟩
  · by_cases hl : a + 1 > ((ns.map D.int).length : Int)
    · exact ⟨_, a + 1, _, c, run (taken_end hc hl n0), Int.fmod_nonneg_of_pos _ hn, Int.fmod_lt_of_pos _ hn, by omega⟩
    · obtain ⟨x, hx⟩ := at_map (ns := ns) (a := a + 1 - 1) (by omega) (by rw [List.length_map] at hl; omega)
      exact ⟨_, a + 1, _, _, run (taken_cell hc hl hx n0 n1), Int.fmod_nonneg_of_pos _ hn, Int.fmod_lt_of_pos _ hn, by omega⟩
theorem row_take {q : Str} {sc : List D} {a b c a' b' c' : Int} {rest : Stor} : (rowS q sc a b c rest).take (rowS q sc a' b' c' rest).length = rowS q sc a b c rest := by
  show C.tab q :: C.lst _ :: rest.take rest.length = _
  rw [List.take_length]
theorem fn_row {F : Fn} {fs : Den (List W)} {rho : Rho} {q : Str} {sc : List D} {a b c a' b' c' : Int} {rest : Stor} {ws : List W} {y : D} (h1 : fs rho (rowS q sc a b c rest) = .ok ws (rowS q sc a b c rest)) (h2 : F ws (rowS q sc a b c rest) = .ok (.d y) (rowS q sc a' b' c' rest)) :
    dFn false F fs rho (rowS q sc a b c rest) = .ok (.d y) (rowS q sc a' b' c' rest) := by
  unfold dFn
  rw [h1]
  show leave false (rowS q sc a b c rest).length (F ws (rowS q sc a b c rest)) = _
  rw [h2]
  show Res.ok (W.d y) (cutS (rowS q sc a b c rest).length (rowS q sc a' b' c' rest)) = _
  rw [cutS_same (n := (rowS q sc a b c rest).length) (S := rowS q sc a' b' c' rest) rfl]
/-- one of several -/
theorem picked {q : Str} {ns : List Int} {a b c : Int} {rest : Stor} {xs : List D} (ha : 0 ≤ a) (hx : xs ≠ []) (hs : xs.length < 1000) :
    ∃ x a' b' c', F__law_pick [.r 1, .d (.lst xs)] (rowS q (ns.map D.int) a b c rest) = .ok (.d x) (rowS q (ns.map D.int) a' b' c' rest) ∧ x ∈ xs ∧ 0 ≤ a' := by
  have hl : 0 < xs.length := List.length_pos_iff.mpr hx
  obtain ⟨v, a', b', c', e, v0, v1, a0⟩ := taken (q := q) (ns := ns) (a := a) (b := b) (c := c) (n := (xs.length : Int)) (rest := rest) ha (by omega) (by omega)
  obtain ⟨j, rfl⟩ := Int.eq_ofNat_of_zero_le v0
  have hj : j < xs.length := by omega
  refine ⟨xs[j], a', b', c', ?_, List.getElem_mem hj, a0⟩
  have e1 : body__law_pick [some (.r 1), some (.d (.lst xs))] (rowS q (ns.map D.int) a b c rest) = .rt (.d xs[j]) (rowS q (ns.map D.int) a' b' c' rest) := by
    refine sRet_ok ((dOp_ok (a := .d (.lst xs)) (S1 := rowS q (ns.map D.int) a b c rest) rfl (fn_row (ws := [.r 1, .d (.int xs.length)]) rfl e)).trans ?_)
    show (match atI xs (j : Int) with | some d => Res.ok (W.d d) (rowS q (ns.map D.int) a' b' c' rest) | none => .bad) = _
    rw [atI_nat (List.getElem?_eq_getElem hj)]
  show (match body__law_pick [some (.r 1), some (.d (.lst xs))] (rowS q (ns.map D.int) a b c rest) with | .nx _ S' => Res.ok (W.d D.non) S' | .rt w S' => .ok w S' | .exc e _ S' => .exc e S' | _ => .bad) = _
  rw [e1]
end DL
namespace DL
open PySem PySem.Spec PyProof.Rows L2 StX
def pc0 : List Pt := [(0, 0)]
def pc1 : List Pt := [(0, 0), (0, 1)]
def pc2 : List Pt := [(0, 0), (1, 0)]
def pc3 : List Pt := [(0, 0), (0, 1), (0, 2)]
def pc4 : List Pt := [(0, 0), (0, 1), (1, 0)]
def pc5 : List Pt := [(0, 0), (0, 1), (1, 1)]
def pc6 : List Pt := [(0, 0), (1, 0), (1, 1)]
def pc7 : List Pt := [(0, 0), (1, 0), (2, 0)]
def pc8 : List Pt := [(0, 1), (1, 0), (1, 1)]
def pc9 : List Pt := [(0, 0), (0, 1), (0, 2), (0, 3)]
def pc10 : List Pt := [(0, 0), (0, 1), (0, 2), (1, 0)]
def pc11 : List Pt := [(0, 0), (0, 1), (0, 2), (1, 1)]
def pc12 : List Pt := [(0, 0), (0, 1), (0, 2), (1, 2)]
def pc13 : List Pt := [(0, 0), (0, 1), (1, 0), (1, 1)]
def pc14 : List Pt := [(0, 0), (0, 1), (1, 0), (2, 0)]
def pc15 : List Pt := [(0, 0), (0, 1), (1, 1), (1, 2)]
def pc16 : List Pt := [(0, 0), (0, 1), (1, 1), (2, 1)]
def pc17 : List Pt := [(0, 0), (1, 0), (1, 1), (1, 2)]
def pc18 : List Pt := [(0, 0), (1, 0), (1, 1), (2, 0)]
def pc19 : List Pt := [(0, 0), (1, 0), (1, 1), (2, 1)]
def pc20 : List Pt := [(0, 0), (1, 0), (2, 0), (2, 1)]
def pc21 : List Pt := [(0, 0), (1, 0), (2, 0), (3, 0)]
def pc22 : List Pt := [(0, 1), (0, 2), (1, 0), (1, 1)]
def pc23 : List Pt := [(0, 1), (1, 0), (1, 1), (1, 2)]
def pc24 : List Pt := [(0, 1), (1, 0), (1, 1), (2, 0)]
def pc25 : List Pt := [(0, 1), (1, 0), (1, 1), (2, 1)]
def pc26 : List Pt := [(0, 1), (1, 1), (2, 0), (2, 1)]
def pc27 : List Pt := [(0, 2), (1, 0), (1, 1), (1, 2)]
def pc28 : List Pt := [(0, 0), (0, 1), (0, 2), (0, 3), (0, 4)]
def pc29 : List Pt := [(0, 0), (0, 1), (0, 2), (0, 3), (1, 0)]
def pc30 : List Pt := [(0, 0), (0, 1), (0, 2), (0, 3), (1, 1)]
def pc31 : List Pt := [(0, 0), (0, 1), (0, 2), (0, 3), (1, 2)]
def pc32 : List Pt := [(0, 0), (0, 1), (0, 2), (0, 3), (1, 3)]
def pc33 : List Pt := [(0, 0), (0, 1), (0, 2), (1, 0), (1, 1)]
def pc34 : List Pt := [(0, 0), (0, 1), (0, 2), (1, 0), (1, 2)]
def pc35 : List Pt := [(0, 0), (0, 1), (0, 2), (1, 0), (2, 0)]
def pc36 : List Pt := [(0, 0), (0, 1), (0, 2), (1, 1), (1, 2)]
def pc37 : List Pt := [(0, 0), (0, 1), (0, 2), (1, 1), (2, 1)]
def pc38 : List Pt := [(0, 0), (0, 1), (0, 2), (1, 2), (1, 3)]
def pc39 : List Pt := [(0, 0), (0, 1), (0, 2), (1, 2), (2, 2)]
def pc40 : List Pt := [(0, 0), (0, 1), (1, 0), (1, 1), (1, 2)]
def pc41 : List Pt := [(0, 0), (0, 1), (1, 0), (1, 1), (2, 0)]
def pc42 : List Pt := [(0, 0), (0, 1), (1, 0), (1, 1), (2, 1)]
def pc43 : List Pt := [(0, 0), (0, 1), (1, 0), (2, 0), (2, 1)]
def pc44 : List Pt := [(0, 0), (0, 1), (1, 0), (2, 0), (3, 0)]
def pc45 : List Pt := [(0, 0), (0, 1), (1, 1), (1, 2), (1, 3)]
def pc46 : List Pt := [(0, 0), (0, 1), (1, 1), (1, 2), (2, 1)]
def pc47 : List Pt := [(0, 0), (0, 1), (1, 1), (1, 2), (2, 2)]
def pc48 : List Pt := [(0, 0), (0, 1), (1, 1), (2, 0), (2, 1)]
def pc49 : List Pt := [(0, 0), (0, 1), (1, 1), (2, 1), (2, 2)]
def pc50 : List Pt := [(0, 0), (0, 1), (1, 1), (2, 1), (3, 1)]
def pc51 : List Pt := [(0, 0), (0, 2), (1, 0), (1, 1), (1, 2)]
def pc52 : List Pt := [(0, 0), (1, 0), (1, 1), (1, 2), (1, 3)]
def pc53 : List Pt := [(0, 0), (1, 0), (1, 1), (1, 2), (2, 0)]
def pc54 : List Pt := [(0, 0), (1, 0), (1, 1), (1, 2), (2, 1)]
def pc55 : List Pt := [(0, 0), (1, 0), (1, 1), (1, 2), (2, 2)]
def pc56 : List Pt := [(0, 0), (1, 0), (1, 1), (2, 0), (2, 1)]
def pc57 : List Pt := [(0, 0), (1, 0), (1, 1), (2, 0), (3, 0)]
def pc58 : List Pt := [(0, 0), (1, 0), (1, 1), (2, 1), (2, 2)]
def pc59 : List Pt := [(0, 0), (1, 0), (1, 1), (2, 1), (3, 1)]
def pc60 : List Pt := [(0, 0), (1, 0), (2, 0), (2, 1), (2, 2)]
def pc61 : List Pt := [(0, 0), (1, 0), (2, 0), (2, 1), (3, 0)]
def pc62 : List Pt := [(0, 0), (1, 0), (2, 0), (2, 1), (3, 1)]
def pc63 : List Pt := [(0, 0), (1, 0), (2, 0), (3, 0), (3, 1)]
def pc64 : List Pt := [(0, 0), (1, 0), (2, 0), (3, 0), (4, 0)]
def pc65 : List Pt := [(0, 1), (0, 2), (0, 3), (1, 0), (1, 1)]
def pc66 : List Pt := [(0, 1), (0, 2), (1, 0), (1, 1), (1, 2)]
def pc67 : List Pt := [(0, 1), (0, 2), (1, 0), (1, 1), (2, 0)]
def pc68 : List Pt := [(0, 1), (0, 2), (1, 0), (1, 1), (2, 1)]
def pc69 : List Pt := [(0, 1), (0, 2), (1, 1), (2, 0), (2, 1)]
def pc70 : List Pt := [(0, 1), (1, 0), (1, 1), (1, 2), (1, 3)]
def pc71 : List Pt := [(0, 1), (1, 0), (1, 1), (1, 2), (2, 0)]
def pc72 : List Pt := [(0, 1), (1, 0), (1, 1), (1, 2), (2, 1)]
def pc73 : List Pt := [(0, 1), (1, 0), (1, 1), (1, 2), (2, 2)]
def pc74 : List Pt := [(0, 1), (1, 0), (1, 1), (2, 0), (2, 1)]
def pc75 : List Pt := [(0, 1), (1, 0), (1, 1), (2, 0), (3, 0)]
def pc76 : List Pt := [(0, 1), (1, 0), (1, 1), (2, 1), (2, 2)]
def pc77 : List Pt := [(0, 1), (1, 0), (1, 1), (2, 1), (3, 1)]
def pc78 : List Pt := [(0, 1), (1, 1), (1, 2), (2, 0), (2, 1)]
def pc79 : List Pt := [(0, 1), (1, 1), (2, 0), (2, 1), (2, 2)]
def pc80 : List Pt := [(0, 1), (1, 1), (2, 0), (2, 1), (3, 0)]
def pc81 : List Pt := [(0, 1), (1, 1), (2, 0), (2, 1), (3, 1)]
def pc82 : List Pt := [(0, 1), (1, 1), (2, 1), (3, 0), (3, 1)]
def pc83 : List Pt := [(0, 2), (0, 3), (1, 0), (1, 1), (1, 2)]
def pc84 : List Pt := [(0, 2), (1, 0), (1, 1), (1, 2), (1, 3)]
def pc85 : List Pt := [(0, 2), (1, 0), (1, 1), (1, 2), (2, 0)]
def pc86 : List Pt := [(0, 2), (1, 0), (1, 1), (1, 2), (2, 1)]
def pc87 : List Pt := [(0, 2), (1, 0), (1, 1), (1, 2), (2, 2)]
def pc88 : List Pt := [(0, 2), (1, 1), (1, 2), (2, 0), (2, 1)]
def pc89 : List Pt := [(0, 2), (1, 2), (2, 0), (2, 1), (2, 2)]
def pc90 : List Pt := [(0, 3), (1, 0), (1, 1), (1, 2), (1, 3)]
def PS : List (List Pt) := [pc0, pc1, pc2, pc3, pc4, pc5, pc6, pc7, pc8, pc9, pc10, pc11, pc12, pc13, pc14, pc15, pc16, pc17, pc18, pc19, pc20, pc21, pc22, pc23, pc24, pc25, pc26, pc27, pc28, pc29, pc30, pc31, pc32, pc33, pc34, pc35, pc36, pc37, pc38, pc39, pc40, pc41, pc42, pc43, pc44, pc45, pc46, pc47, pc48, pc49, pc50, pc51, pc52, pc53, pc54, pc55, pc56, pc57, pc58, pc59, pc60, pc61, pc62, pc63, pc64, pc65, pc66, pc67, pc68, pc69, pc70, pc71, pc72, pc73, pc74, pc75, pc76, pc77, pc78, pc79, pc80, pc81, pc82, pc83, pc84, pc85, pc86, pc87, pc88, pc89, pc90]
def pieceD (p : List Pt) : D := .tup (cellsD p)
def LL : List (List Pt) := reach 0 ++ (reach 1 ++ (reach 2 ++ reach 3))
def setOk (l : List Pt) : Bool := match F__law_settle [.d (.lst (cellsD l))] [] with
  | .ok (.d y) _ => noLst y && PS.any fun p => D.beq y (pieceD p)
  | _ => false
abbrev rhoG (w3 w4 w5 w6 : Option W) : Rho := [some (.r 1), some (.d (.int 5)), some (.r 2), w3, w4, w5, w6]
theorem chunk {α : Type} {Q : α → Prop} (k : Nat) (hk : 0 < k) : ∀ (n : Nat) (L : List α), L.length ≤ k * n → (∀ i, i < n → ∀ x ∈ (L.drop (k * i)).take k, Q x) → ∀ x ∈ L, Q x
  | 0, L, h, _, x, hx => by
    have : L.length = 0 := by omega
    rw [List.eq_nil_of_length_eq_zero this] at hx
    cases hx
  | n + 1, L, h, c, x, hx => by
    rw [← List.take_append_drop k L] at hx
    rcases List.mem_append.mp hx with hx | hx
    · exact c 0 (by omega) x (by rw [Nat.mul_zero, List.drop_zero]; exact hx)
    · refine chunk k hk n (L.drop k) (by rw [List.length_drop, Nat.mul_add] at *; omega) (fun i hi y hy => c (i + 1) (by omega) y ?_) x hx
      rw [List.drop_drop] at hy
      rw [show k * (i + 1) = k + k * i by rw [Nat.mul_add]; omega]
      exact hy
theorem set3_0 : (allSteps (((reach 3).drop (16 * 0)).take 16)).all setOk = true := by decide +kernel
theorem set3_1 : (allSteps (((reach 3).drop (16 * 1)).take 16)).all setOk = true := by decide +kernel
theorem set3_2 : (allSteps (((reach 3).drop (16 * 2)).take 16)).all setOk = true := by decide +kernel
theorem set3_3 : (allSteps (((reach 3).drop (16 * 3)).take 16)).all setOk = true := by decide +kernel
theorem set3_4 : (allSteps (((reach 3).drop (16 * 4)).take 16)).all setOk = true := by decide +kernel
theorem set3_5 : (allSteps (((reach 3).drop (16 * 5)).take 16)).all setOk = true := by decide +kernel
theorem set3_6 : (allSteps (((reach 3).drop (16 * 6)).take 16)).all setOk = true := by decide +kernel
theorem set3_7 : (allSteps (((reach 3).drop (16 * 7)).take 16)).all setOk = true := by decide +kernel
theorem set3_8 : (allSteps (((reach 3).drop (16 * 8)).take 16)).all setOk = true := by decide +kernel
theorem set3_9 : (allSteps (((reach 3).drop (16 * 9)).take 16)).all setOk = true := by decide +kernel
theorem set3_10 : (allSteps (((reach 3).drop (16 * 10)).take 16)).all setOk = true := by decide +kernel
theorem setLL : LL.all setOk = true := by decide +kernel
theorem len3 : (reach 3).length ≤ 16 * 11 := by decide +kernel
theorem lenLL : LL.length ≤ 16 * 13 := by decide +kernel
theorem near_0 (r0 r1 : C) (w3 w4 w5 w6 : Option W) : ((LL.drop (16 * 0)).take 16).map (fun l => (sSeq p1__law_grown p3__law_grown) (rhoG w3 w4 w5 w6) [r0, r1, .lst (cellsD l)]) =
   ((LL.drop (16 * 0)).take 16).map (fun l => RS.nx (rhoG w3 (some (.d (.lst (cellsD (nearN l))))) (l.getLast?.map fun p => .d (cellD p)) w6) [r0, r1, .lst (cellsD l)]) := by kernel_rfl
theorem sort_0 (S : Stor) : ((LL.drop (16 * 0)).take 16).map (fun l => gSortB false [.d (.lst (cellsD (nearN l)))] S) = ((LL.drop (16 * 0)).take 16).map (fun l => Res.ok (.d (.lst (cellsD (sortN (nearN l))))) S) := by kernel_rfl
theorem near_1 (r0 r1 : C) (w3 w4 w5 w6 : Option W) : ((LL.drop (16 * 1)).take 16).map (fun l => (sSeq p1__law_grown p3__law_grown) (rhoG w3 w4 w5 w6) [r0, r1, .lst (cellsD l)]) =
   ((LL.drop (16 * 1)).take 16).map (fun l => RS.nx (rhoG w3 (some (.d (.lst (cellsD (nearN l))))) (l.getLast?.map fun p => .d (cellD p)) w6) [r0, r1, .lst (cellsD l)]) := by kernel_rfl
theorem sort_1 (S : Stor) : ((LL.drop (16 * 1)).take 16).map (fun l => gSortB false [.d (.lst (cellsD (nearN l)))] S) = ((LL.drop (16 * 1)).take 16).map (fun l => Res.ok (.d (.lst (cellsD (sortN (nearN l))))) S) := by kernel_rfl
theorem near_2 (r0 r1 : C) (w3 w4 w5 w6 : Option W) : ((LL.drop (16 * 2)).take 16).map (fun l => (sSeq p1__law_grown p3__law_grown) (rhoG w3 w4 w5 w6) [r0, r1, .lst (cellsD l)]) =
   ((LL.drop (16 * 2)).take 16).map (fun l => RS.nx (rhoG w3 (some (.d (.lst (cellsD (nearN l))))) (l.getLast?.map fun p => .d (cellD p)) w6) [r0, r1, .lst (cellsD l)]) := by kernel_rfl
theorem sort_2 (S : Stor) : ((LL.drop (16 * 2)).take 16).map (fun l => gSortB false [.d (.lst (cellsD (nearN l)))] S) = ((LL.drop (16 * 2)).take 16).map (fun l => Res.ok (.d (.lst (cellsD (sortN (nearN l))))) S) := by kernel_rfl
theorem near_3 (r0 r1 : C) (w3 w4 w5 w6 : Option W) : ((LL.drop (16 * 3)).take 16).map (fun l => (sSeq p1__law_grown p3__law_grown) (rhoG w3 w4 w5 w6) [r0, r1, .lst (cellsD l)]) =
   ((LL.drop (16 * 3)).take 16).map (fun l => RS.nx (rhoG w3 (some (.d (.lst (cellsD (nearN l))))) (l.getLast?.map fun p => .d (cellD p)) w6) [r0, r1, .lst (cellsD l)]) := by kernel_rfl
theorem sort_3 (S : Stor) : ((LL.drop (16 * 3)).take 16).map (fun l => gSortB false [.d (.lst (cellsD (nearN l)))] S) = ((LL.drop (16 * 3)).take 16).map (fun l => Res.ok (.d (.lst (cellsD (sortN (nearN l))))) S) := by kernel_rfl
theorem near_4 (r0 r1 : C) (w3 w4 w5 w6 : Option W) : ((LL.drop (16 * 4)).take 16).map (fun l => (sSeq p1__law_grown p3__law_grown) (rhoG w3 w4 w5 w6) [r0, r1, .lst (cellsD l)]) =
   ((LL.drop (16 * 4)).take 16).map (fun l => RS.nx (rhoG w3 (some (.d (.lst (cellsD (nearN l))))) (l.getLast?.map fun p => .d (cellD p)) w6) [r0, r1, .lst (cellsD l)]) := by kernel_rfl
theorem sort_4 (S : Stor) : ((LL.drop (16 * 4)).take 16).map (fun l => gSortB false [.d (.lst (cellsD (nearN l)))] S) = ((LL.drop (16 * 4)).take 16).map (fun l => Res.ok (.d (.lst (cellsD (sortN (nearN l))))) S) := by kernel_rfl
theorem near_5 (r0 r1 : C) (w3 w4 w5 w6 : Option W) : ((LL.drop (16 * 5)).take 16).map (fun l => (sSeq p1__law_grown p3__law_grown) (rhoG w3 w4 w5 w6) [r0, r1, .lst (cellsD l)]) =
   ((LL.drop (16 * 5)).take 16).map (fun l => RS.nx (rhoG w3 (some (.d (.lst (cellsD (nearN l))))) (l.getLast?.map fun p => .d (cellD p)) w6) [r0, r1, .lst (cellsD l)]) := by kernel_rfl
theorem sort_5 (S : Stor) : ((LL.drop (16 * 5)).take 16).map (fun l => gSortB false [.d (.lst (cellsD (nearN l)))] S) = ((LL.drop (16 * 5)).take 16).map (fun l => Res.ok (.d (.lst (cellsD (sortN (nearN l))))) S) := by kernel_rfl
theorem near_6 (r0 r1 : C) (w3 w4 w5 w6 : Option W) : ((LL.drop (16 * 6)).take 16).map (fun l => (sSeq p1__law_grown p3__law_grown) (rhoG w3 w4 w5 w6) [r0, r1, .lst (cellsD l)]) =
   ((LL.drop (16 * 6)).take 16).map (fun l => RS.nx (rhoG w3 (some (.d (.lst (cellsD (nearN l))))) (l.getLast?.map fun p => .d (cellD p)) w6) [r0, r1, .lst (cellsD l)]) := by kernel_rfl
theorem sort_6 (S : Stor) : ((LL.drop (16 * 6)).take 16).map (fun l => gSortB false [.d (.lst (cellsD (nearN l)))] S) = ((LL.drop (16 * 6)).take 16).map (fun l => Res.ok (.d (.lst (cellsD (sortN (nearN l))))) S) := by kernel_rfl
theorem near_7 (r0 r1 : C) (w3 w4 w5 w6 : Option W) : ((LL.drop (16 * 7)).take 16).map (fun l => (sSeq p1__law_grown p3__law_grown) (rhoG w3 w4 w5 w6) [r0, r1, .lst (cellsD l)]) =
   ((LL.drop (16 * 7)).take 16).map (fun l => RS.nx (rhoG w3 (some (.d (.lst (cellsD (nearN l))))) (l.getLast?.map fun p => .d (cellD p)) w6) [r0, r1, .lst (cellsD l)]) := by kernel_rfl
theorem sort_7 (S : Stor) : ((LL.drop (16 * 7)).take 16).map (fun l => gSortB false [.d (.lst (cellsD (nearN l)))] S) = ((LL.drop (16 * 7)).take 16).map (fun l => Res.ok (.d (.lst (cellsD (sortN (nearN l))))) S) := by kernel_rfl
theorem near_8 (r0 r1 : C) (w3 w4 w5 w6 : Option W) : ((LL.drop (16 * 8)).take 16).map (fun l => (sSeq p1__law_grown p3__law_grown) (rhoG w3 w4 w5 w6) [r0, r1, .lst (cellsD l)]) =
   ((LL.drop (16 * 8)).take 16).map (fun l => RS.nx (rhoG w3 (some (.d (.lst (cellsD (nearN l))))) (l.getLast?.map fun p => .d (cellD p)) w6) [r0, r1, .lst (cellsD l)]) := by kernel_rfl
theorem sort_8 (S : Stor) : ((LL.drop (16 * 8)).take 16).map (fun l => gSortB false [.d (.lst (cellsD (nearN l)))] S) = ((LL.drop (16 * 8)).take 16).map (fun l => Res.ok (.d (.lst (cellsD (sortN (nearN l))))) S) := by kernel_rfl
theorem near_9 (r0 r1 : C) (w3 w4 w5 w6 : Option W) : ((LL.drop (16 * 9)).take 16).map (fun l => (sSeq p1__law_grown p3__law_grown) (rhoG w3 w4 w5 w6) [r0, r1, .lst (cellsD l)]) =
   ((LL.drop (16 * 9)).take 16).map (fun l => RS.nx (rhoG w3 (some (.d (.lst (cellsD (nearN l))))) (l.getLast?.map fun p => .d (cellD p)) w6) [r0, r1, .lst (cellsD l)]) := by kernel_rfl
theorem sort_9 (S : Stor) : ((LL.drop (16 * 9)).take 16).map (fun l => gSortB false [.d (.lst (cellsD (nearN l)))] S) = ((LL.drop (16 * 9)).take 16).map (fun l => Res.ok (.d (.lst (cellsD (sortN (nearN l))))) S) := by kernel_rfl
theorem near_10 (r0 r1 : C) (w3 w4 w5 w6 : Option W) : ((LL.drop (16 * 10)).take 16).map (fun l => (sSeq p1__law_grown p3__law_grown) (rhoG w3 w4 w5 w6) [r0, r1, .lst (cellsD l)]) =
   ((LL.drop (16 * 10)).take 16).map (fun l => RS.nx (rhoG w3 (some (.d (.lst (cellsD (nearN l))))) (l.getLast?.map fun p => .d (cellD p)) w6) [r0, r1, .lst (cellsD l)]) := by kernel_rfl
theorem sort_10 (S : Stor) : ((LL.drop (16 * 10)).take 16).map (fun l => gSortB false [.d (.lst (cellsD (nearN l)))] S) = ((LL.drop (16 * 10)).take 16).map (fun l => Res.ok (.d (.lst (cellsD (sortN (nearN l))))) S) := by kernel_rfl
theorem near_11 (r0 r1 : C) (w3 w4 w5 w6 : Option W) : ((LL.drop (16 * 11)).take 16).map (fun l => (sSeq p1__law_grown p3__law_grown) (rhoG w3 w4 w5 w6) [r0, r1, .lst (cellsD l)]) =
   ((LL.drop (16 * 11)).take 16).map (fun l => RS.nx (rhoG w3 (some (.d (.lst (cellsD (nearN l))))) (l.getLast?.map fun p => .d (cellD p)) w6) [r0, r1, .lst (cellsD l)]) := by kernel_rfl
theorem sort_11 (S : Stor) : ((LL.drop (16 * 11)).take 16).map (fun l => gSortB false [.d (.lst (cellsD (nearN l)))] S) = ((LL.drop (16 * 11)).take 16).map (fun l => Res.ok (.d (.lst (cellsD (sortN (nearN l))))) S) := by kernel_rfl
theorem near_12 (r0 r1 : C) (w3 w4 w5 w6 : Option W) : ((LL.drop (16 * 12)).take 16).map (fun l => (sSeq p1__law_grown p3__law_grown) (rhoG w3 w4 w5 w6) [r0, r1, .lst (cellsD l)]) =
   ((LL.drop (16 * 12)).take 16).map (fun l => RS.nx (rhoG w3 (some (.d (.lst (cellsD (nearN l))))) (l.getLast?.map fun p => .d (cellD p)) w6) [r0, r1, .lst (cellsD l)]) := by kernel_rfl
theorem sort_12 (S : Stor) : ((LL.drop (16 * 12)).take 16).map (fun l => gSortB false [.d (.lst (cellsD (nearN l)))] S) = ((LL.drop (16 * 12)).take 16).map (fun l => Res.ok (.d (.lst (cellsD (sortN (nearN l))))) S) := by kernel_rfl
theorem near_at {l : List Pt} (h : l ∈ LL) (r0 r1 : C) (w3 w4 w5 w6 : Option W) : (sSeq p1__law_grown p3__law_grown) (rhoG w3 w4 w5 w6) [r0, r1, .lst (cellsD l)] =
    RS.nx (rhoG w3 (some (.d (.lst (cellsD (nearN l))))) (l.getLast?.map fun p => .d (cellD p)) w6) [r0, r1, .lst (cellsD l)] := by
  refine chunk (Q := fun l => (sSeq p1__law_grown p3__law_grown) (rhoG w3 w4 w5 w6) [r0, r1, .lst (cellsD l)] = RS.nx (rhoG w3 (some (.d (.lst (cellsD (nearN l))))) (l.getLast?.map fun p => .d (cellD p)) w6) [r0, r1, .lst (cellsD l)]) 16 (by omega) 13 LL lenLL (fun i hi => ?_) l h
  match i, hi with
  | 0, _ => exact List.map_inj_left.mp (near_0 r0 r1 w3 w4 w5 w6)
  | 1, _ => exact List.map_inj_left.mp (near_1 r0 r1 w3 w4 w5 w6)
  | 2, _ => exact List.map_inj_left.mp (near_2 r0 r1 w3 w4 w5 w6)
  | 3, _ => exact List.map_inj_left.mp (near_3 r0 r1 w3 w4 w5 w6)
  | 4, _ => exact List.map_inj_left.mp (near_4 r0 r1 w3 w4 w5 w6)
  | 5, _ => exact List.map_inj_left.mp (near_5 r0 r1 w3 w4 w5 w6)
  | 6, _ => exact List.map_inj_left.mp (near_6 r0 r1 w3 w4 w5 w6)
  | 7, _ => exact List.map_inj_left.mp (near_7 r0 r1 w3 w4 w5 w6)
  | 8, _ => exact List.map_inj_left.mp (near_8 r0 r1 w3 w4 w5 w6)
  | 9, _ => exact List.map_inj_left.mp (near_9 r0 r1 w3 w4 w5 w6)
  | 10, _ => exact List.map_inj_left.mp (near_10 r0 r1 w3 w4 w5 w6)
  | 11, _ => exact List.map_inj_left.mp (near_11 r0 r1 w3 w4 w5 w6)
  | 12, _ => exact List.map_inj_left.mp (near_12 r0 r1 w3 w4 w5 w6)
theorem sort_at {l : List Pt} (h : l ∈ LL) (S : Stor) : gSortB false [.d (.lst (cellsD (nearN l)))] S = .ok (.d (.lst (cellsD (sortN (nearN l))))) S := by
  refine chunk (Q := fun l => gSortB false [.d (.lst (cellsD (nearN l)))] S = .ok (.d (.lst (cellsD (sortN (nearN l))))) S) 16 (by omega) 13 LL lenLL (fun i hi => ?_) l h
  match i, hi with
  | 0, _ => exact List.map_inj_left.mp (sort_0 S)
  | 1, _ => exact List.map_inj_left.mp (sort_1 S)
  | 2, _ => exact List.map_inj_left.mp (sort_2 S)
  | 3, _ => exact List.map_inj_left.mp (sort_3 S)
  | 4, _ => exact List.map_inj_left.mp (sort_4 S)
  | 5, _ => exact List.map_inj_left.mp (sort_5 S)
  | 6, _ => exact List.map_inj_left.mp (sort_6 S)
  | 7, _ => exact List.map_inj_left.mp (sort_7 S)
  | 8, _ => exact List.map_inj_left.mp (sort_8 S)
  | 9, _ => exact List.map_inj_left.mp (sort_9 S)
  | 10, _ => exact List.map_inj_left.mp (sort_10 S)
  | 11, _ => exact List.map_inj_left.mp (sort_11 S)
  | 12, _ => exact List.map_inj_left.mp (sort_12 S)
theorem steps_of {ls : List (List Pt)} {m : List Pt} : m ∈ allSteps ls → ∃ l ∈ ls, m ∈ stepsN l (sortN (nearN l)) := by
  induction ls with
  | nil => intro h; cases h
  | cons l ls ih =>
    intro h
    rw [allSteps] at h
    rcases List.mem_append.mp h with h | h
    · exact ⟨l, List.mem_cons_self, h⟩
    · obtain ⟨k, h1, h2⟩ := ih h
      exact ⟨k, List.mem_cons_of_mem _ h1, h2⟩
theorem of_steps {l m : List Pt} (h : m ∈ stepsN l (sortN (nearN l))) : ∀ {ls : List (List Pt)}, l ∈ ls → m ∈ allSteps ls
  | k :: ls, hl => by
    rw [allSteps]
    rcases List.mem_cons.mp hl with rfl | hl
    · exact List.mem_append_left _ h
    · exact List.mem_append_right _ (of_steps h hl)
theorem set4 {m : List Pt} (h : m ∈ reach 4) : setOk m = true := by
  obtain ⟨l, h1, h2⟩ := steps_of (show m ∈ allSteps (reach 3) from h)
  refine chunk (Q := fun l => ∀ m, m ∈ stepsN l (sortN (nearN l)) → setOk m = true) 16 (by omega) 11 (reach 3) len3 (fun i hi => ?_) l h1 m h2
  match i, hi with
  | 0, _ => exact fun l hl m hm => List.all_eq_true.mp set3_0 m (of_steps hm hl)
  | 1, _ => exact fun l hl m hm => List.all_eq_true.mp set3_1 m (of_steps hm hl)
  | 2, _ => exact fun l hl m hm => List.all_eq_true.mp set3_2 m (of_steps hm hl)
  | 3, _ => exact fun l hl m hm => List.all_eq_true.mp set3_3 m (of_steps hm hl)
  | 4, _ => exact fun l hl m hm => List.all_eq_true.mp set3_4 m (of_steps hm hl)
  | 5, _ => exact fun l hl m hm => List.all_eq_true.mp set3_5 m (of_steps hm hl)
  | 6, _ => exact fun l hl m hm => List.all_eq_true.mp set3_6 m (of_steps hm hl)
  | 7, _ => exact fun l hl m hm => List.all_eq_true.mp set3_7 m (of_steps hm hl)
  | 8, _ => exact fun l hl m hm => List.all_eq_true.mp set3_8 m (of_steps hm hl)
  | 9, _ => exact fun l hl m hm => List.all_eq_true.mp set3_9 m (of_steps hm hl)
  | 10, _ => exact fun l hl m hm => List.all_eq_true.mp set3_10 m (of_steps hm hl)
theorem some_all : LL.all (fun l => !(sortN (nearN l)).isEmpty && (decide ((sortN (nearN l)).length < 1000) && decide (l.length < 1000))) = true := by decide +kernel
end DL
namespace DL
open PySem PySem.Spec PyProof.Rows L2 StX
theorem sSeq_assoc {f g h : SD} {rho : Rho} {S : Stor} : sSeq f (sSeq g h) rho S = sSeq (sSeq f g) h rho S := by
  unfold sSeq
  cases f rho S <;> rfl
theorem cellsD_map : ∀ l : List Pt, cellsD l = l.map cellD
  | [] => rfl
  | p :: ps => by rw [cellsD, cellsD_map ps, List.map_cons]
theorem some_at {l : List Pt} (h : l ∈ LL) : cellsD (sortN (nearN l)) ≠ [] ∧ (cellsD (sortN (nearN l))).length < 1000 ∧ (cellsD l).length < 1000 := by
  have q := List.all_eq_true.mp some_all l h
  rw [Bool.and_eq_true, Bool.and_eq_true] at q
  obtain ⟨q1, q2, q3⟩ := q
  rw [cellsD_map, cellsD_map, List.length_map, List.length_map]
  refine ⟨fun e => ?_, of_decide_eq_true q2, of_decide_eq_true q3⟩
  have e2 : sortN (nearN l) = [] := List.map_eq_nil_iff.mp e
  rw [e2] at q1
  cases q1
theorem steps_mem {l : List Pt} {p : Pt} : ∀ {xs : List Pt}, p ∈ xs → l ++ [p] ∈ stepsN l xs
  | x :: xs, h => by
    rw [stepsN]
    rcases List.mem_cons.mp h with rfl | h
    · exact List.mem_cons_self
    · exact List.mem_cons_of_mem _ (steps_mem h)
theorem all_mem {l : List Pt} {p : Pt} (hp : p ∈ sortN (nearN l)) : ∀ {ls : List (List Pt)}, l ∈ ls → l ++ [p] ∈ allSteps ls
  | k :: ls, h => by
    rw [allSteps]
    rcases List.mem_cons.mp h with rfl | h
    · exact List.mem_append_left _ (steps_mem hp)
    · exact List.mem_append_right _ (all_mem hp h)
theorem reach_LL {t : Nat} {l : List Pt} (ht : t ≤ 3) (h : l ∈ reach t) : l ∈ LL := by
  unfold LL
  simp only [List.mem_append]
  match t, ht, h with
  | 0, _, h => exact .inl h
  | 1, _, h => exact .inr (.inl h)
  | 2, _, h => exact .inr (.inr (.inl h))
  | 3, _, h => exact .inr (.inr (.inr h))
/-- one turn -/
theorem turn_ok {q : Str} {ns : List Int} {a b c : Int} {l : List Pt} {w3 w4 w5 w6 : Option W} (hl : l ∈ LL) (ha : 0 ≤ a) :
    ∃ p w4' w5' a' b' c', sSeq p1__law_grown (sSeq p3__law_grown p4__law_grown) (rhoG w3 w4 w5 w6) (rowS q (ns.map D.int) a b c [.lst (cellsD l)]) = .nx (rhoG w3 w4' w5' w6) (rowS q (ns.map D.int) a' b' c' [.lst (cellsD (l ++ [p]))]) ∧ p ∈ sortN (nearN l) ∧ 0 ≤ a' := by
  obtain ⟨h1, h2, h3⟩ := some_at hl
  obtain ⟨x, a', b', c', e, hx, a0⟩ := picked (q := q) (ns := ns) (a := a) (b := b) (c := c) (rest := [.lst (cellsD l)]) ha h1 h2
  rw [cellsD_map] at hx
  obtain ⟨p, hp, rfl⟩ := List.mem_map.mp hx
  refine ⟨p, some (.d (.lst (cellsD (nearN l)))), (l.getLast?.map fun p => .d (cellD p)), a', b', c', ?_, hp, a0⟩
  rw [sSeq_assoc]
  refine (sSeq_nx (near_at hl (.tab q) (.lst [.lst (ns.map D.int), .int a, .int b, .int c]) w3 w4 w5 w6)).trans ?_
  have args : dCons (dVar 0) (dCons (dCall (gSortB false) (dCons (dVar 4) dNil)) dNil) (rhoG w3 (some (.d (.lst (cellsD (nearN l))))) (l.getLast?.map fun p => .d (cellD p)) w6) (rowS q (ns.map D.int) a b c [.lst (cellsD l)]) =
      .ok [.r 1, .d (.lst (cellsD (sortN (nearN l))))] (rowS q (ns.map D.int) a b c [.lst (cellsD l)]) := by
    show Res.bind (Res.bind (gSortB false [.d (.lst (cellsD (nearN l)))] (rowS q (ns.map D.int) a b c [.lst (cellsD l)])) _) _ = _
    rw [sort_at hl]
    rfl
  have pick := fn_row (F := F__law_pick) args e
  show Res.lift (dMeth "list" gAppend (dVar 2) (dCons (dFn false F__law_pick (dCons (dVar 0) (dCons (dCall (gSortB false) (dCons (dVar 4) dNil)) dNil))) dNil) _ _) _ _ = _
  have meth : dMeth "list" gAppend (dVar 2) (dCons (dFn false F__law_pick (dCons (dVar 0) (dCons (dCall (gSortB false) (dCons (dVar 4) dNil)) dNil))) dNil) (rhoG w3 (some (.d (.lst (cellsD (nearN l))))) (l.getLast?.map fun p => .d (cellD p)) w6) (rowS q (ns.map D.int) a b c [.lst (cellsD l)]) =
      .ok (.d .non) (rowS q (ns.map D.int) a' b' c' [.lst (cellsD (l ++ [p]))]) := by
    show Res.bind (Res.bind (dFn false F__law_pick (dCons (dVar 0) (dCons (dCall (gSortB false) (dCons (dVar 4) dNil)) dNil)) _ (rowS q (ns.map D.int) a b c [.lst (cellsD l)])) _) _ = _
    rw [pick]
    show (if (cellsD l).length < 16777216 then Res.ok (W.d D.non) (rowS q (ns.map D.int) a' b' c' [.lst (cellsD l ++ [cellD p])]) else .bad) = _
    rw [if_pos (by omega), cellsD_map, cellsD_map, List.map_append] <;> rfl
  rw [meth]
  rfl
/-- the turns -/
theorem turns_ok {q : Str} {ns : List Int} : ∀ (ds : List D) (t : Nat) (l : List Pt) (a b c : Int) (w3 w4 w5 w6 : Option W), l ∈ reach t → t + ds.length ≤ 4 → 0 ≤ a → ∀ it : Wlk, it.cell = none →
    ∃ l' w3' w4' w5' a' b' c', forGo it (tgN 3) (sSeq p1__law_grown (sSeq p3__law_grown p4__law_grown)) ds (rhoG w3 w4 w5 w6) (rowS q (ns.map D.int) a b c [.lst (cellsD l)]) = .nx (rhoG w3' w4' w5' w6) (rowS q (ns.map D.int) a' b' c' [.lst (cellsD l')]) ∧ l' ∈ reach (t + ds.length) ∧ 0 ≤ a'
  | [], t, l, a, b, c, w3, w4, w5, w6, hl, _, ha, it, hc => by
    refine ⟨l, w3, w4, w5, a, b, c, ?_, hl, ha⟩
    have ok : cellOk it (rowS q (ns.map D.int) a b c [.lst (cellsD l)]) = true := by unfold cellOk; rw [hc]
    rw [forGo, if_pos ok]
  | d :: ds, t, l, a, b, c, w3, w4, w5, w6, hl, ht, ha, it, hc => by
    rw [List.length_cons] at ht
    have ok : cellOk it (rowS q (ns.map D.int) a b c [.lst (cellsD l)]) = true := by unfold cellOk; rw [hc]
    obtain ⟨p, w4', w5', a', b', c', e, hp, a0⟩ := turn_ok (q := q) (ns := ns) (a := a) (b := b) (c := c) (l := l) (w3 := some (.d d)) (w4 := w4) (w5 := w5) (w6 := w6) (reach_LL (t := t) (by omega) hl) ha
    have hl' : l ++ [p] ∈ reach (t + 1) := all_mem hp hl
    obtain ⟨l', w3', w4'', w5'', a'', b'', c'', e2, hl2, a1⟩ := turns_ok ds (t + 1) (l ++ [p]) a' b' c' (some (.d d)) w4' w5' w6 hl' (by omega) a0 it hc
    refine ⟨l', w3', w4'', w5'', a'', b'', c'', ?_, by rw [List.length_cons, show t + (ds.length + 1) = t + 1 + ds.length by omega]; exact hl2, a1⟩
    rw [forGo, if_pos ok]
    show (match sSeq p1__law_grown (sSeq p3__law_grown p4__law_grown) (rhoG (some (.d d)) w4 w5 w6) (rowS q (ns.map D.int) a b c [.lst (cellsD l)]) with | .nx r S' => forGo it (tgN 3) (sSeq p1__law_grown (sSeq p3__law_grown p4__law_grown)) ds r S' | .ct r S' => forGo it (tgN 3) (sSeq p1__law_grown (sSeq p3__law_grown p4__law_grown)) ds r S' | .bk r S' => .nx r S' | o => o) = _
    rw [e]
    exact e2
theorem rng_len (k : Int) (n : Nat) : (rngD k n).length = n := by simp [rngD]
theorem settled {l : List Pt} (h : l ∈ reach 4 ++ LL) : ∃ p S, p ∈ PS ∧ F__law_settle [.d (.lst (cellsD l))] [] = .ok (.d (pieceD p)) S ∧ noLst (pieceD p) = true := by
  have q : setOk l = true := (List.mem_append.mp h).elim set4 fun h => List.all_eq_true.mp setLL l h
  unfold setOk at q
  cases e : F__law_settle [.d (.lst (cellsD l))] [] with
  | bad => rw [e] at q; cases q
  | exc x S => rw [e] at q; cases q
  | ok w S =>
    rw [e] at q
    cases w with
    | l => cases q
    | r n => cases q
    | d y =>
      have q : (noLst y && PS.any fun p => D.beq y (pieceD p)) = true := q
      rw [Bool.and_eq_true, List.any_eq_true] at q
      obtain ⟨q1, p, hp, q2⟩ := q
      have ey := D.eq_of_beq _ _ q2
      subst ey
      exact ⟨p, S, hp, rfl, q1⟩
/-- a grown piece -/
theorem grown {q : Str} {ns : List Int} {a b c : Int} (ha : 0 ≤ a) :
    ∃ p l a' b' c', F__law_grown [.r 1, .d (.int 5)] (rowS q (ns.map D.int) a b c []) = .ok (.d (pieceD p)) (rowS q (ns.map D.int) a' b' c' [.lst (cellsD l)]) ∧ p ∈ PS ∧ 0 ≤ a' := by
  obtain ⟨v, a1, b1, c1, e1, v0, v1, a10⟩ := taken (q := q) (ns := ns) (a := a) (b := b) (c := c) (n := 5) (rest := [.lst (cellsD [(0, 0)])]) ha (by omega) (by omega)
  obtain ⟨l, w3, w4, w5, a2, b2, c2, e2, hl, a20⟩ := turns_ok (q := q) (ns := ns) (rngD 0 v.toNat) 0 [(0, 0)] a1 b1 c1 none none none none (by rw [reach]; exact List.mem_cons_self) (by rw [rng_len]; omega) a10 ⟨rngD 0 v.toNat, none⟩ rfl
  rw [rng_len, Nat.zero_add] at hl
  have hl2 : l ∈ reach 4 ++ LL := by
    by_cases h4 : v.toNat = 4
    · rw [h4] at hl
      exact List.mem_append_left _ hl
    · exact List.mem_append_right _ (reach_LL (by omega) hl)
  obtain ⟨p, S, hp, e3, hn⟩ := settled hl2
  refine ⟨p, l, a2, b2, c2, ?_, hp, a20⟩
  have args : dCons (dVar 0) (dCons (dVar 1) dNil) (rhoG none none none none) (rowS q (ns.map D.int) a b c [.lst (cellsD [(0, 0)])]) = .ok [.r 1, .d (.int 5)] (rowS q (ns.map D.int) a b c [.lst (cellsD [(0, 0)])]) := rfl
  have t1 := fn_row (F := F__law_taken) args e1
  have loop : p5__law_grown (rhoG none none none none) (rowS q (ns.map D.int) a b c [.lst (cellsD [(0, 0)])]) = .nx (rhoG w3 w4 w5 none) (rowS q (ns.map D.int) a2 b2 c2 [.lst (cellsD l)]) := by
    show Res.lift (Res.bind (Res.bind (dFn false F__law_taken (dCons (dVar 0) (dCons (dVar 1) dNil)) (rhoG none none none none) (rowS q (ns.map D.int) a b c [.lst (cellsD [(0, 0)])])) _) kR1) _ _ = _
    rw [t1]
    show Res.lift (if (decide (-(2 ^ 62) ≤ v) && decide (v < 2 ^ 62)) = true then Res.ok (Wlk.mk (rngD 0 v.toNat) none) (rowS q (ns.map D.int) a1 b1 c1 [.lst (cellsD [(0, 0)])]) else .bad) _ _ = _
    rw [if_pos (by rw [decide_eq_true (show -(2 ^ 62) ≤ v by omega), decide_eq_true (show v < 2 ^ 62 by omega)] <;> rfl)]
    exact e2
  have fin : p6__law_grown (rhoG w3 w4 w5 none) (rowS q (ns.map D.int) a2 b2 c2 [.lst (cellsD l)]) = .rt (.d (pieceD p)) (rowS q (ns.map D.int) a2 b2 c2 [.lst (cellsD l)]) := by
    refine sRet_ok ?_
    show endP false (rowS q (ns.map D.int) a2 b2 c2 [.lst (cellsD l)]) (F__law_settle [.d (.lst (cellsD l))] []) = _
    rw [e3]
    show (if (false || noLst (pieceD p)) = true then Res.ok (W.d (pieceD p)) (rowS q (ns.map D.int) a2 b2 c2 [.lst (cellsD l)]) else .bad) = _
    rw [hn]
    rfl
  have all : body__law_grown [some (.r 1), some (.d (.int 5)), none, none, none, none, none] (rowS q (ns.map D.int) a b c []) = .rt (.d (pieceD p)) (rowS q (ns.map D.int) a2 b2 c2 [.lst (cellsD l)]) := by
    refine (sSeq_nx (rho' := rhoG none none none none) (S' := rowS q (ns.map D.int) a b c [.lst (cellsD [(0, 0)])]) (by rfl)).trans ?_
    exact (sSeq_nx loop).trans fin
  show (match body__law_grown [some (.r 1), some (.d (.int 5)), none, none, none, none, none] (rowS q (ns.map D.int) a b c []) with | .nx _ S' => Res.ok (W.d D.non) S' | .rt w S' => .ok w S' | .exc e _ S' => .exc e S' | _ => .bad) = _
  rw [all]
end DL
namespace DL
open PySem PySem.Spec PyProof.Rows L2 StX
def psD : List (List Pt) → List D
  | [] => []
  | p :: ps => pieceD p :: psD ps
def Q1 : List (List Pt) := [[(0, 0)]]
def Q2 : List (List Pt) := [[(0, 0), (0, 1)]]
def Q3 : List (List Pt) := [[(0, 0), (0, 1), (0, 2)], [(0, 0), (0, 1), (1, 0)]]
def Q4 : List (List Pt) := [[(0, 0), (0, 1), (0, 2), (0, 3)], [(0, 0), (0, 1), (0, 2), (1, 0)], [(0, 0), (0, 1), (0, 2), (1, 1)], [(0, 0), (0, 1), (1, 0), (1, 1)], [(0, 0), (0, 1), (1, 1), (1, 2)]]
def Q5 : List (List Pt) := [[(0, 0), (0, 1), (0, 2), (0, 3), (0, 4)], [(0, 0), (0, 1), (0, 2), (0, 3), (1, 0)], [(0, 0), (0, 1), (0, 2), (0, 3), (1, 1)], [(0, 0), (0, 1), (0, 2), (1, 0), (1, 1)], [(0, 0), (0, 1), (0, 2), (1, 0), (1, 2)], [(0, 0), (0, 1), (0, 2), (1, 0), (2, 0)], [(0, 0), (0, 1), (0, 2), (1, 1), (2, 1)], [(0, 0), (0, 1), (0, 2), (1, 2), (1, 3)], [(0, 0), (0, 1), (1, 1), (1, 2), (2, 1)], [(0, 0), (0, 1), (1, 1), (1, 2), (2, 2)], [(0, 0), (0, 1), (1, 1), (2, 1), (2, 2)], [(0, 1), (1, 0), (1, 1), (1, 2), (2, 1)]]
def okLst (r : Res W) (ps : List (List Pt)) : Bool := match r with
  | .ok (.d (.lst xs)) _ => beqs xs (psD ps)
  | _ => false
theorem ok_lst {r : Res W} {ps : List (List Pt)} (h : okLst r ps = true) : ∃ S, r = .ok (.d (.lst (psD ps))) S := by
  cases r with
  | bad => cases h
  | exc e S => cases h
  | ok w S =>
    cases w with
    | l => cases h
    | r n => cases h
    | d y =>
      cases y with
      | lst xs =>
        have e := eq_of_beqs _ _ (show beqs xs (psD ps) = true from h)
        subst e
        exact ⟨S, rfl⟩
      | _ => cases h
theorem one_1 : okLst (F__one_cell_more [.d (.lst (psD Q1))] []) Q2 = true := by decide +kernel
theorem one_2 : okLst (F__one_cell_more [.d (.lst (psD Q2))] []) Q3 = true := by decide +kernel
theorem one_3 : okLst (F__one_cell_more [.d (.lst (psD Q3))] []) Q4 = true := by decide +kernel
def isTr2 (r : Res W) : Bool := match r with | .ok (.d (.bl true)) _ => true | _ => false
theorem alike_5 : isTr2 (F__law_alike 8 [.d (.tup (psD Q5)), .d (.tup (psD Q5))] []) = true := by decide +kernel
theorem dFnP_ok {F : Fn} {fs : Den (List W)} {rho : Rho} {S S1 : Stor} {ws : List W} {ds : List D} {r : Res W} (h1 : fs rho S = .ok ws S1) (h2 : snap S1 ws = some ds) (h3 : F (ds.map W.d) [] = r) : dFnP F fs rho S = endP (allD ws) S1 r := by
  unfold dFnP
  rw [h1]
  show (match snap S1 ws with | some ds => endP (allD ws) S1 (F (ds.map W.d) []) | none => .bad) = _
  rw [h2, ← h3]
theorem runDef_rt {n : Nat} {body : SD} {ws : List W} {S S' : Stor} {w : W} {rho : Rho} (hr : ws.map some ++ List.replicate (n - ws.length) none = rho) (h : body rho S = .rt w S') : runDef n body ws S = .ok w S' := by
  unfold runDef
  rw [hr, h]
theorem two_ok {f g : Den W} {rho : Rho} {S S1 S2 : Stor} {a b : W} (h1 : f rho S = .ok a S1) (h2 : g rho S1 = .ok b S2) : dCons f (dCons g dNil) rho S = .ok [a, b] S2 := by
  unfold dCons
  rw [h1]
  show Res.bind (Res.bind (g rho S1) _) _ = _
  rw [h2]
  rfl
theorem truth_ok {f : Den W} {rho : Rho} {S S1 : Stor} {w : W} {b : Bool} (h1 : f rho S = .ok w S1) (h2 : truD S1 w = some b) : dTruth f rho S = .ok b S1 := by
  unfold dTruth
  rw [h1]
  show (match truD S1 w with | some b => Res.ok b S1 | none => .bad) = _
  rw [h2]
theorem not_ok {c : Den Bool} {rho : Rho} {S S1 : Stor} {b : Bool} (h : c rho S = .ok b S1) : dNotT c rho S = .ok (!b) S1 := by
  unfold dNotT
  rw [h]
  rfl
theorem tup_any {xs : List D} {S : Stor} (h : gTuple [.d (.lst xs)] S = .ok (.d (.tup xs)) S) {f : Den W} {rho : Rho} (e : f rho S = .ok (.d (.lst xs)) S) : dCall gTuple (dCons f dNil) rho S = .ok (.d (.tup xs)) S := (dCall1_ok e).trans h
theorem many_gen {F1 F2 F3 : Fn} {xs : List D} {S1 S2 S3 : Stor} {A : SD} {rho : Rho} {S : Stor} {i : Int} (hr : rho[10]? = some (some (.d (.int i)))) (e1 : F1 [.d (.int i)] [] = .ok (.d (.tup xs)) S1) (e2 : F2 [.d (.int i)] [] = .ok (.d (.lst xs)) S2) (ht : ∀ S, gTuple [.d (.lst xs)] S = .ok (.d (.tup xs)) S)
    (e3 : F3 [.d (.tup xs), .d (.tup xs)] [] = .ok (.d (.bl true)) S3) :
    sIf (dNotT (dTruth (dFnP F3 (dCons (dFnP F1 (dCons (dVar 10) dNil)) (dCons (dCall gTuple (dCons (dFnP F2 (dCons (dVar 10) dNil)) dNil)) dNil))))) A sNil rho S = .nx rho S := by
  have v : dCons (dVar 10) dNil rho S = .ok [.d (.int i)] S := by
    unfold dCons dVar
    rw [hr]
    rfl
  have a1 : dFnP F1 (dCons (dVar 10) dNil) rho S = .ok (.d (.tup xs)) S := (dFnP_ok (ds := [.int i]) v rfl e1).trans rfl
  have a2 : dFnP F2 (dCons (dVar 10) dNil) rho S = .ok (.d (.lst xs)) S := (dFnP_ok (ds := [.int i]) v rfl e2).trans rfl
  have a4 : dFnP F3 (dCons (dFnP F1 (dCons (dVar 10) dNil)) (dCons (dCall gTuple (dCons (dFnP F2 (dCons (dVar 10) dNil)) dNil)) dNil)) rho S = .ok (.d (.bl true)) S := (dFnP_ok (ds := [.tup xs, .tup xs]) (two_ok a1 (tup_any (ht S) a2)) rfl e3).trans rfl
  exact (sIf_f (b := false) (S' := S) (not_ok (truth_ok a4 rfl)) rfl).trans rfl
theorem sFor_ok {fi : Den Wlk} {tg : Tgt} {body : SD} {rho : Rho} {S S1 : Stor} {its : List D} {r : RS} (h : fi rho S = .ok ⟨its, none⟩ S1) (h2 : forGo ⟨its, none⟩ tg body its rho S1 = r) : sFor fi tg body rho S = r := by
  unfold sFor
  rw [h]
  exact h2
def I1m : SD := (sFor (dSeq (dVar 2)) (tgN 3) (sFor (dSeq (dFnP F__cells_beside (dCons (dVar 3) dNil))) (tgN 4) (sIf (dBool (dOp (gIn true) (dVar 4) (dVar 2))) (sExpr (dSAdd (dVar 1) (dCons (dFnP F_least_form (dCons (dFnP F_set_home (dCons (dLst false (dStr (dVar 2) (dCons (dVar 4) dNil))) dNil)) dNil)) dNil))) sNil)))
def I2m : SD := (sFor (dSeq (dVar 4)) (tgN 5) (sFor (dSeq (dLst false (dCons (dTup (dCons (dOp gSub (dOp gIx (dVar 5) (dC (.int 0))) (dC (.int 1))) (dCons (dOp gIx (dVar 5) (dC (.int 1))) dNil))) (dCons (dTup (dCons (dOp gIx (dVar 5) (dC (.int 0))) (dCons (dOp gSub (dOp gIx (dVar 5) (dC (.int 1))) (dC (.int 1))) dNil))) (dCons (dTup (dCons (dOp gIx (dVar 5) (dC (.int 0))) (dCons (dOp (gAdd false) (dOp gIx (dVar 5) (dC (.int 1))) (dC (.int 1))) dNil))) (dCons (dTup (dCons (dOp (gAdd false) (dOp gIx (dVar 5) (dC (.int 0))) (dC (.int 1))) (dCons (dOp gIx (dVar 5) (dC (.int 1))) dNil))) dNil)))))) (tgN 6) (sIf (dBool (dOp (gIn true) (dVar 6) (dVar 4))) (sExpr (dMeth "list" gAppend (dVar 3) (dCons (dOp gIx (dFnP F__law_forms (dCons (dFnP F__law_settle (dCons (dOp (gAdd false) (dVar 4) (dTup (dCons (dVar 6) dNil))) dNil)) (dCons (dC (.bl true)) dNil))) (dC (.int 0))) dNil))) sNil)))
def T2m : SD := (sSeq (sSet 3 (dLst true dNil)) (sSeq (sFor (dSeq (dVar 1)) (tgN 4) I2m) (sSet 1 (dCall (gSortB false) (dCons (dCall gSetOf (dCons (dVar 3) dNil)) dNil)))))
theorem om_0 : I1m [some (.d (.lst (psD Q4))), some (.r 0), some (.d (pieceD [(0, 0), (0, 1), (0, 2), (0, 3)])), none, none] [.set (psD [])] = .nx [some (.d (.lst (psD Q4))), some (.r 0), some (.d (pieceD [(0, 0), (0, 1), (0, 2), (0, 3)])), some (.d (.tup [.int 0, .int 3])), some (.d (.tup [.int 1, .int 3]))] [.set (psD [[(0, 0), (0, 1), (0, 2), (0, 3), (1, 0)], [(0, 0), (0, 1), (0, 2), (0, 3), (0, 4)], [(0, 0), (0, 1), (0, 2), (0, 3), (1, 1)]])] := by kernel_rfl
theorem om_1 : I1m [some (.d (.lst (psD Q4))), some (.r 0), some (.d (pieceD [(0, 0), (0, 1), (0, 2), (1, 0)])), some (.d (.tup [.int 0, .int 3])), some (.d (.tup [.int 1, .int 3]))] [.set (psD [[(0, 0), (0, 1), (0, 2), (0, 3), (1, 0)], [(0, 0), (0, 1), (0, 2), (0, 3), (0, 4)], [(0, 0), (0, 1), (0, 2), (0, 3), (1, 1)]])] = .nx [some (.d (.lst (psD Q4))), some (.r 0), some (.d (pieceD [(0, 0), (0, 1), (0, 2), (1, 0)])), some (.d (.tup [.int 1, .int 0])), some (.d (.tup [.int 2, .int 0]))] [.set (psD [[(0, 0), (0, 1), (0, 2), (0, 3), (1, 0)], [(0, 0), (0, 1), (0, 2), (0, 3), (0, 4)], [(0, 0), (0, 1), (0, 2), (0, 3), (1, 1)], [(0, 0), (0, 1), (0, 2), (1, 1), (2, 1)], [(0, 0), (0, 1), (1, 1), (1, 2), (2, 1)], [(0, 0), (0, 1), (0, 2), (1, 0), (1, 1)], [(0, 0), (0, 1), (1, 1), (2, 1), (2, 2)], [(0, 0), (0, 1), (0, 2), (1, 0), (1, 2)], [(0, 0), (0, 1), (0, 2), (1, 2), (1, 3)], [(0, 0), (0, 1), (0, 2), (1, 0), (2, 0)]])] := by kernel_rfl
theorem om_2 : I1m [some (.d (.lst (psD Q4))), some (.r 0), some (.d (pieceD [(0, 0), (0, 1), (0, 2), (1, 1)])), some (.d (.tup [.int 1, .int 0])), some (.d (.tup [.int 2, .int 0]))] [.set (psD [[(0, 0), (0, 1), (0, 2), (0, 3), (1, 0)], [(0, 0), (0, 1), (0, 2), (0, 3), (0, 4)], [(0, 0), (0, 1), (0, 2), (0, 3), (1, 1)], [(0, 0), (0, 1), (0, 2), (1, 1), (2, 1)], [(0, 0), (0, 1), (1, 1), (1, 2), (2, 1)], [(0, 0), (0, 1), (0, 2), (1, 0), (1, 1)], [(0, 0), (0, 1), (1, 1), (2, 1), (2, 2)], [(0, 0), (0, 1), (0, 2), (1, 0), (1, 2)], [(0, 0), (0, 1), (0, 2), (1, 2), (1, 3)], [(0, 0), (0, 1), (0, 2), (1, 0), (2, 0)]])] = .nx [some (.d (.lst (psD Q4))), some (.r 0), some (.d (pieceD [(0, 0), (0, 1), (0, 2), (1, 1)])), some (.d (.tup [.int 1, .int 1])), some (.d (.tup [.int 2, .int 1]))] [.set (psD [[(0, 0), (0, 1), (0, 2), (0, 3), (1, 0)], [(0, 0), (0, 1), (0, 2), (0, 3), (0, 4)], [(0, 0), (0, 1), (0, 2), (0, 3), (1, 1)], [(0, 0), (0, 1), (0, 2), (1, 1), (2, 1)], [(0, 0), (0, 1), (1, 1), (1, 2), (2, 1)], [(0, 0), (0, 1), (0, 2), (1, 0), (1, 1)], [(0, 0), (0, 1), (1, 1), (2, 1), (2, 2)], [(0, 0), (0, 1), (0, 2), (1, 0), (1, 2)], [(0, 0), (0, 1), (0, 2), (1, 2), (1, 3)], [(0, 0), (0, 1), (0, 2), (1, 0), (2, 0)], [(0, 1), (1, 0), (1, 1), (1, 2), (2, 1)]])] := by kernel_rfl
theorem om_3 : I1m [some (.d (.lst (psD Q4))), some (.r 0), some (.d (pieceD [(0, 0), (0, 1), (1, 0), (1, 1)])), some (.d (.tup [.int 1, .int 1])), some (.d (.tup [.int 2, .int 1]))] [.set (psD [[(0, 0), (0, 1), (0, 2), (0, 3), (1, 0)], [(0, 0), (0, 1), (0, 2), (0, 3), (0, 4)], [(0, 0), (0, 1), (0, 2), (0, 3), (1, 1)], [(0, 0), (0, 1), (0, 2), (1, 1), (2, 1)], [(0, 0), (0, 1), (1, 1), (1, 2), (2, 1)], [(0, 0), (0, 1), (0, 2), (1, 0), (1, 1)], [(0, 0), (0, 1), (1, 1), (2, 1), (2, 2)], [(0, 0), (0, 1), (0, 2), (1, 0), (1, 2)], [(0, 0), (0, 1), (0, 2), (1, 2), (1, 3)], [(0, 0), (0, 1), (0, 2), (1, 0), (2, 0)], [(0, 1), (1, 0), (1, 1), (1, 2), (2, 1)]])] = .nx [some (.d (.lst (psD Q4))), some (.r 0), some (.d (pieceD [(0, 0), (0, 1), (1, 0), (1, 1)])), some (.d (.tup [.int 1, .int 1])), some (.d (.tup [.int 2, .int 1]))] [.set (psD [[(0, 0), (0, 1), (0, 2), (0, 3), (1, 0)], [(0, 0), (0, 1), (0, 2), (0, 3), (0, 4)], [(0, 0), (0, 1), (0, 2), (0, 3), (1, 1)], [(0, 0), (0, 1), (0, 2), (1, 1), (2, 1)], [(0, 0), (0, 1), (1, 1), (1, 2), (2, 1)], [(0, 0), (0, 1), (0, 2), (1, 0), (1, 1)], [(0, 0), (0, 1), (1, 1), (2, 1), (2, 2)], [(0, 0), (0, 1), (0, 2), (1, 0), (1, 2)], [(0, 0), (0, 1), (0, 2), (1, 2), (1, 3)], [(0, 0), (0, 1), (0, 2), (1, 0), (2, 0)], [(0, 1), (1, 0), (1, 1), (1, 2), (2, 1)]])] := by kernel_rfl
theorem om_4 : I1m [some (.d (.lst (psD Q4))), some (.r 0), some (.d (pieceD [(0, 0), (0, 1), (1, 1), (1, 2)])), some (.d (.tup [.int 1, .int 1])), some (.d (.tup [.int 2, .int 1]))] [.set (psD [[(0, 0), (0, 1), (0, 2), (0, 3), (1, 0)], [(0, 0), (0, 1), (0, 2), (0, 3), (0, 4)], [(0, 0), (0, 1), (0, 2), (0, 3), (1, 1)], [(0, 0), (0, 1), (0, 2), (1, 1), (2, 1)], [(0, 0), (0, 1), (1, 1), (1, 2), (2, 1)], [(0, 0), (0, 1), (0, 2), (1, 0), (1, 1)], [(0, 0), (0, 1), (1, 1), (2, 1), (2, 2)], [(0, 0), (0, 1), (0, 2), (1, 0), (1, 2)], [(0, 0), (0, 1), (0, 2), (1, 2), (1, 3)], [(0, 0), (0, 1), (0, 2), (1, 0), (2, 0)], [(0, 1), (1, 0), (1, 1), (1, 2), (2, 1)]])] = .nx [some (.d (.lst (psD Q4))), some (.r 0), some (.d (pieceD [(0, 0), (0, 1), (1, 1), (1, 2)])), some (.d (.tup [.int 1, .int 2])), some (.d (.tup [.int 2, .int 2]))] [.set (psD [[(0, 0), (0, 1), (0, 2), (0, 3), (1, 0)], [(0, 0), (0, 1), (0, 2), (0, 3), (0, 4)], [(0, 0), (0, 1), (0, 2), (0, 3), (1, 1)], [(0, 0), (0, 1), (0, 2), (1, 1), (2, 1)], [(0, 0), (0, 1), (1, 1), (1, 2), (2, 1)], [(0, 0), (0, 1), (0, 2), (1, 0), (1, 1)], [(0, 0), (0, 1), (1, 1), (2, 1), (2, 2)], [(0, 0), (0, 1), (0, 2), (1, 0), (1, 2)], [(0, 0), (0, 1), (0, 2), (1, 2), (1, 3)], [(0, 0), (0, 1), (0, 2), (1, 0), (2, 0)], [(0, 1), (1, 0), (1, 1), (1, 2), (2, 1)], [(0, 0), (0, 1), (1, 1), (1, 2), (2, 2)]])] := by kernel_rfl
theorem at_0 : T2m [some (.d (.int 5)), some (.d (.lst (psD [[(0, 0)]]))), some (.d (.int 0)), none, none, none, none] [] = .nx [some (.d (.int 5)), some (.d (.lst (psD [[(0, 0), (0, 1)]]))), some (.d (.int 0)), some (.r 0), some (.d (pieceD [(0, 0)])), some (.d (.tup [.int 0, .int 0])), some (.d (.tup [.int 1, .int 0]))] [.lst (psD [[(0, 0), (0, 1)], [(0, 0), (0, 1)], [(0, 0), (0, 1)], [(0, 0), (0, 1)]]), .set (psD [[(0, 0), (0, 1)]])] := by kernel_rfl
theorem at_1 : T2m [some (.d (.int 5)), some (.d (.lst (psD [[(0, 0), (0, 1)]]))), some (.d (.int 1)), some (.r 0), some (.d (pieceD [(0, 0)])), some (.d (.tup [.int 0, .int 0])), some (.d (.tup [.int 1, .int 0]))] [.lst (psD [[(0, 0), (0, 1)], [(0, 0), (0, 1)], [(0, 0), (0, 1)], [(0, 0), (0, 1)]]), .set (psD [[(0, 0), (0, 1)]])] = .nx [some (.d (.int 5)), some (.d (.lst (psD [[(0, 0), (0, 1), (0, 2)], [(0, 0), (0, 1), (1, 0)]]))), some (.d (.int 1)), some (.r 2), some (.d (pieceD [(0, 0), (0, 1)])), some (.d (.tup [.int 0, .int 1])), some (.d (.tup [.int 1, .int 1]))] [.lst (psD [[(0, 0), (0, 1)], [(0, 0), (0, 1)], [(0, 0), (0, 1)], [(0, 0), (0, 1)]]), .set (psD [[(0, 0), (0, 1)]]), .lst (psD [[(0, 0), (0, 1), (1, 0)], [(0, 0), (0, 1), (0, 2)], [(0, 0), (0, 1), (1, 0)], [(0, 0), (0, 1), (1, 0)], [(0, 0), (0, 1), (0, 2)], [(0, 0), (0, 1), (1, 0)]]), .set (psD [[(0, 0), (0, 1), (1, 0)], [(0, 0), (0, 1), (0, 2)]])] := by kernel_rfl
theorem at_2 : T2m [some (.d (.int 5)), some (.d (.lst (psD [[(0, 0), (0, 1), (0, 2)], [(0, 0), (0, 1), (1, 0)]]))), some (.d (.int 2)), some (.r 2), some (.d (pieceD [(0, 0), (0, 1)])), some (.d (.tup [.int 0, .int 1])), some (.d (.tup [.int 1, .int 1]))] [.lst (psD [[(0, 0), (0, 1)], [(0, 0), (0, 1)], [(0, 0), (0, 1)], [(0, 0), (0, 1)]]), .set (psD [[(0, 0), (0, 1)]]), .lst (psD [[(0, 0), (0, 1), (1, 0)], [(0, 0), (0, 1), (0, 2)], [(0, 0), (0, 1), (1, 0)], [(0, 0), (0, 1), (1, 0)], [(0, 0), (0, 1), (0, 2)], [(0, 0), (0, 1), (1, 0)]]), .set (psD [[(0, 0), (0, 1), (1, 0)], [(0, 0), (0, 1), (0, 2)]])] = .nx [some (.d (.int 5)), some (.d (.lst (psD Q4))), some (.d (.int 2)), some (.r 4), some (.d (pieceD [(0, 0), (0, 1), (1, 0)])), some (.d (.tup [.int 1, .int 0])), some (.d (.tup [.int 2, .int 0]))] [.lst (psD [[(0, 0), (0, 1)], [(0, 0), (0, 1)], [(0, 0), (0, 1)], [(0, 0), (0, 1)]]), .set (psD [[(0, 0), (0, 1)]]), .lst (psD [[(0, 0), (0, 1), (1, 0)], [(0, 0), (0, 1), (0, 2)], [(0, 0), (0, 1), (1, 0)], [(0, 0), (0, 1), (1, 0)], [(0, 0), (0, 1), (0, 2)], [(0, 0), (0, 1), (1, 0)]]), .set (psD [[(0, 0), (0, 1), (1, 0)], [(0, 0), (0, 1), (0, 2)]]), .lst (psD [[(0, 0), (0, 1), (0, 2), (1, 0)], [(0, 0), (0, 1), (0, 2), (0, 3)], [(0, 0), (0, 1), (0, 2), (1, 0)], [(0, 0), (0, 1), (0, 2), (1, 1)], [(0, 0), (0, 1), (0, 2), (1, 1)], [(0, 0), (0, 1), (0, 2), (1, 0)], [(0, 0), (0, 1), (0, 2), (0, 3)], [(0, 0), (0, 1), (0, 2), (1, 0)], [(0, 0), (0, 1), (0, 2), (1, 1)], [(0, 0), (0, 1), (0, 2), (1, 1)], [(0, 0), (0, 1), (1, 1), (1, 2)], [(0, 0), (0, 1), (0, 2), (1, 0)], [(0, 0), (0, 1), (1, 0), (1, 1)], [(0, 0), (0, 1), (1, 1), (1, 2)], [(0, 0), (0, 1), (1, 0), (1, 1)], [(0, 0), (0, 1), (0, 2), (1, 0)]]), .set (psD [[(0, 0), (0, 1), (0, 2), (1, 0)], [(0, 0), (0, 1), (0, 2), (0, 3)], [(0, 0), (0, 1), (0, 2), (1, 1)], [(0, 0), (0, 1), (1, 1), (1, 2)], [(0, 0), (0, 1), (1, 0), (1, 1)]])] := by kernel_rfl
theorem am_new : (sSet 3 (dLst true dNil)) [some (.d (.int 5)), some (.d (.lst (psD Q4))), some (.d (.int 3)), some (.r 4), some (.d (pieceD [(0, 0), (0, 1), (1, 0)])), some (.d (.tup [.int 1, .int 0])), some (.d (.tup [.int 2, .int 0]))] [.lst (psD [[(0, 0), (0, 1)], [(0, 0), (0, 1)], [(0, 0), (0, 1)], [(0, 0), (0, 1)]]), .set (psD [[(0, 0), (0, 1)]]), .lst (psD [[(0, 0), (0, 1), (1, 0)], [(0, 0), (0, 1), (0, 2)], [(0, 0), (0, 1), (1, 0)], [(0, 0), (0, 1), (1, 0)], [(0, 0), (0, 1), (0, 2)], [(0, 0), (0, 1), (1, 0)]]), .set (psD [[(0, 0), (0, 1), (1, 0)], [(0, 0), (0, 1), (0, 2)]]), .lst (psD [[(0, 0), (0, 1), (0, 2), (1, 0)], [(0, 0), (0, 1), (0, 2), (0, 3)], [(0, 0), (0, 1), (0, 2), (1, 0)], [(0, 0), (0, 1), (0, 2), (1, 1)], [(0, 0), (0, 1), (0, 2), (1, 1)], [(0, 0), (0, 1), (0, 2), (1, 0)], [(0, 0), (0, 1), (0, 2), (0, 3)], [(0, 0), (0, 1), (0, 2), (1, 0)], [(0, 0), (0, 1), (0, 2), (1, 1)], [(0, 0), (0, 1), (0, 2), (1, 1)], [(0, 0), (0, 1), (1, 1), (1, 2)], [(0, 0), (0, 1), (0, 2), (1, 0)], [(0, 0), (0, 1), (1, 0), (1, 1)], [(0, 0), (0, 1), (1, 1), (1, 2)], [(0, 0), (0, 1), (1, 0), (1, 1)], [(0, 0), (0, 1), (0, 2), (1, 0)]]), .set (psD [[(0, 0), (0, 1), (0, 2), (1, 0)], [(0, 0), (0, 1), (0, 2), (0, 3)], [(0, 0), (0, 1), (0, 2), (1, 1)], [(0, 0), (0, 1), (1, 1), (1, 2)], [(0, 0), (0, 1), (1, 0), (1, 1)]])] = .nx [some (.d (.int 5)), some (.d (.lst (psD Q4))), some (.d (.int 3)), some (.r 6), some (.d (pieceD [(0, 0), (0, 1), (1, 0)])), some (.d (.tup [.int 1, .int 0])), some (.d (.tup [.int 2, .int 0]))] [.lst (psD [[(0, 0), (0, 1)], [(0, 0), (0, 1)], [(0, 0), (0, 1)], [(0, 0), (0, 1)]]), .set (psD [[(0, 0), (0, 1)]]), .lst (psD [[(0, 0), (0, 1), (1, 0)], [(0, 0), (0, 1), (0, 2)], [(0, 0), (0, 1), (1, 0)], [(0, 0), (0, 1), (1, 0)], [(0, 0), (0, 1), (0, 2)], [(0, 0), (0, 1), (1, 0)]]), .set (psD [[(0, 0), (0, 1), (1, 0)], [(0, 0), (0, 1), (0, 2)]]), .lst (psD [[(0, 0), (0, 1), (0, 2), (1, 0)], [(0, 0), (0, 1), (0, 2), (0, 3)], [(0, 0), (0, 1), (0, 2), (1, 0)], [(0, 0), (0, 1), (0, 2), (1, 1)], [(0, 0), (0, 1), (0, 2), (1, 1)], [(0, 0), (0, 1), (0, 2), (1, 0)], [(0, 0), (0, 1), (0, 2), (0, 3)], [(0, 0), (0, 1), (0, 2), (1, 0)], [(0, 0), (0, 1), (0, 2), (1, 1)], [(0, 0), (0, 1), (0, 2), (1, 1)], [(0, 0), (0, 1), (1, 1), (1, 2)], [(0, 0), (0, 1), (0, 2), (1, 0)], [(0, 0), (0, 1), (1, 0), (1, 1)], [(0, 0), (0, 1), (1, 1), (1, 2)], [(0, 0), (0, 1), (1, 0), (1, 1)], [(0, 0), (0, 1), (0, 2), (1, 0)]]), .set (psD [[(0, 0), (0, 1), (0, 2), (1, 0)], [(0, 0), (0, 1), (0, 2), (0, 3)], [(0, 0), (0, 1), (0, 2), (1, 1)], [(0, 0), (0, 1), (1, 1), (1, 2)], [(0, 0), (0, 1), (1, 0), (1, 1)]]), .lst (psD [])] := by kernel_rfl
theorem am_0 : I2m [some (.d (.int 5)), some (.d (.lst (psD Q4))), some (.d (.int 3)), some (.r 6), some (.d (pieceD [(0, 0), (0, 1), (0, 2), (0, 3)])), some (.d (.tup [.int 1, .int 0])), some (.d (.tup [.int 2, .int 0]))] [.lst (psD [[(0, 0), (0, 1)], [(0, 0), (0, 1)], [(0, 0), (0, 1)], [(0, 0), (0, 1)]]), .set (psD [[(0, 0), (0, 1)]]), .lst (psD [[(0, 0), (0, 1), (1, 0)], [(0, 0), (0, 1), (0, 2)], [(0, 0), (0, 1), (1, 0)], [(0, 0), (0, 1), (1, 0)], [(0, 0), (0, 1), (0, 2)], [(0, 0), (0, 1), (1, 0)]]), .set (psD [[(0, 0), (0, 1), (1, 0)], [(0, 0), (0, 1), (0, 2)]]), .lst (psD [[(0, 0), (0, 1), (0, 2), (1, 0)], [(0, 0), (0, 1), (0, 2), (0, 3)], [(0, 0), (0, 1), (0, 2), (1, 0)], [(0, 0), (0, 1), (0, 2), (1, 1)], [(0, 0), (0, 1), (0, 2), (1, 1)], [(0, 0), (0, 1), (0, 2), (1, 0)], [(0, 0), (0, 1), (0, 2), (0, 3)], [(0, 0), (0, 1), (0, 2), (1, 0)], [(0, 0), (0, 1), (0, 2), (1, 1)], [(0, 0), (0, 1), (0, 2), (1, 1)], [(0, 0), (0, 1), (1, 1), (1, 2)], [(0, 0), (0, 1), (0, 2), (1, 0)], [(0, 0), (0, 1), (1, 0), (1, 1)], [(0, 0), (0, 1), (1, 1), (1, 2)], [(0, 0), (0, 1), (1, 0), (1, 1)], [(0, 0), (0, 1), (0, 2), (1, 0)]]), .set (psD [[(0, 0), (0, 1), (0, 2), (1, 0)], [(0, 0), (0, 1), (0, 2), (0, 3)], [(0, 0), (0, 1), (0, 2), (1, 1)], [(0, 0), (0, 1), (1, 1), (1, 2)], [(0, 0), (0, 1), (1, 0), (1, 1)]]), .lst (psD [])] = .nx [some (.d (.int 5)), some (.d (.lst (psD Q4))), some (.d (.int 3)), some (.r 6), some (.d (pieceD [(0, 0), (0, 1), (0, 2), (0, 3)])), some (.d (.tup [.int 0, .int 3])), some (.d (.tup [.int 1, .int 3]))] [.lst (psD [[(0, 0), (0, 1)], [(0, 0), (0, 1)], [(0, 0), (0, 1)], [(0, 0), (0, 1)]]), .set (psD [[(0, 0), (0, 1)]]), .lst (psD [[(0, 0), (0, 1), (1, 0)], [(0, 0), (0, 1), (0, 2)], [(0, 0), (0, 1), (1, 0)], [(0, 0), (0, 1), (1, 0)], [(0, 0), (0, 1), (0, 2)], [(0, 0), (0, 1), (1, 0)]]), .set (psD [[(0, 0), (0, 1), (1, 0)], [(0, 0), (0, 1), (0, 2)]]), .lst (psD [[(0, 0), (0, 1), (0, 2), (1, 0)], [(0, 0), (0, 1), (0, 2), (0, 3)], [(0, 0), (0, 1), (0, 2), (1, 0)], [(0, 0), (0, 1), (0, 2), (1, 1)], [(0, 0), (0, 1), (0, 2), (1, 1)], [(0, 0), (0, 1), (0, 2), (1, 0)], [(0, 0), (0, 1), (0, 2), (0, 3)], [(0, 0), (0, 1), (0, 2), (1, 0)], [(0, 0), (0, 1), (0, 2), (1, 1)], [(0, 0), (0, 1), (0, 2), (1, 1)], [(0, 0), (0, 1), (1, 1), (1, 2)], [(0, 0), (0, 1), (0, 2), (1, 0)], [(0, 0), (0, 1), (1, 0), (1, 1)], [(0, 0), (0, 1), (1, 1), (1, 2)], [(0, 0), (0, 1), (1, 0), (1, 1)], [(0, 0), (0, 1), (0, 2), (1, 0)]]), .set (psD [[(0, 0), (0, 1), (0, 2), (1, 0)], [(0, 0), (0, 1), (0, 2), (0, 3)], [(0, 0), (0, 1), (0, 2), (1, 1)], [(0, 0), (0, 1), (1, 1), (1, 2)], [(0, 0), (0, 1), (1, 0), (1, 1)]]), .lst (psD [[(0, 0), (0, 1), (0, 2), (0, 3), (1, 0)], [(0, 0), (0, 1), (0, 2), (0, 3), (0, 4)], [(0, 0), (0, 1), (0, 2), (0, 3), (1, 0)], [(0, 0), (0, 1), (0, 2), (0, 3), (1, 1)], [(0, 0), (0, 1), (0, 2), (0, 3), (1, 1)], [(0, 0), (0, 1), (0, 2), (0, 3), (1, 1)], [(0, 0), (0, 1), (0, 2), (0, 3), (1, 1)], [(0, 0), (0, 1), (0, 2), (0, 3), (1, 0)], [(0, 0), (0, 1), (0, 2), (0, 3), (0, 4)], [(0, 0), (0, 1), (0, 2), (0, 3), (1, 0)]])] := by kernel_rfl
theorem am_1 : I2m [some (.d (.int 5)), some (.d (.lst (psD Q4))), some (.d (.int 3)), some (.r 6), some (.d (pieceD [(0, 0), (0, 1), (0, 2), (1, 0)])), some (.d (.tup [.int 0, .int 3])), some (.d (.tup [.int 1, .int 3]))] [.lst (psD [[(0, 0), (0, 1)], [(0, 0), (0, 1)], [(0, 0), (0, 1)], [(0, 0), (0, 1)]]), .set (psD [[(0, 0), (0, 1)]]), .lst (psD [[(0, 0), (0, 1), (1, 0)], [(0, 0), (0, 1), (0, 2)], [(0, 0), (0, 1), (1, 0)], [(0, 0), (0, 1), (1, 0)], [(0, 0), (0, 1), (0, 2)], [(0, 0), (0, 1), (1, 0)]]), .set (psD [[(0, 0), (0, 1), (1, 0)], [(0, 0), (0, 1), (0, 2)]]), .lst (psD [[(0, 0), (0, 1), (0, 2), (1, 0)], [(0, 0), (0, 1), (0, 2), (0, 3)], [(0, 0), (0, 1), (0, 2), (1, 0)], [(0, 0), (0, 1), (0, 2), (1, 1)], [(0, 0), (0, 1), (0, 2), (1, 1)], [(0, 0), (0, 1), (0, 2), (1, 0)], [(0, 0), (0, 1), (0, 2), (0, 3)], [(0, 0), (0, 1), (0, 2), (1, 0)], [(0, 0), (0, 1), (0, 2), (1, 1)], [(0, 0), (0, 1), (0, 2), (1, 1)], [(0, 0), (0, 1), (1, 1), (1, 2)], [(0, 0), (0, 1), (0, 2), (1, 0)], [(0, 0), (0, 1), (1, 0), (1, 1)], [(0, 0), (0, 1), (1, 1), (1, 2)], [(0, 0), (0, 1), (1, 0), (1, 1)], [(0, 0), (0, 1), (0, 2), (1, 0)]]), .set (psD [[(0, 0), (0, 1), (0, 2), (1, 0)], [(0, 0), (0, 1), (0, 2), (0, 3)], [(0, 0), (0, 1), (0, 2), (1, 1)], [(0, 0), (0, 1), (1, 1), (1, 2)], [(0, 0), (0, 1), (1, 0), (1, 1)]]), .lst (psD [[(0, 0), (0, 1), (0, 2), (0, 3), (1, 0)], [(0, 0), (0, 1), (0, 2), (0, 3), (0, 4)], [(0, 0), (0, 1), (0, 2), (0, 3), (1, 0)], [(0, 0), (0, 1), (0, 2), (0, 3), (1, 1)], [(0, 0), (0, 1), (0, 2), (0, 3), (1, 1)], [(0, 0), (0, 1), (0, 2), (0, 3), (1, 1)], [(0, 0), (0, 1), (0, 2), (0, 3), (1, 1)], [(0, 0), (0, 1), (0, 2), (0, 3), (1, 0)], [(0, 0), (0, 1), (0, 2), (0, 3), (0, 4)], [(0, 0), (0, 1), (0, 2), (0, 3), (1, 0)]])] = .nx [some (.d (.int 5)), some (.d (.lst (psD Q4))), some (.d (.int 3)), some (.r 6), some (.d (pieceD [(0, 0), (0, 1), (0, 2), (1, 0)])), some (.d (.tup [.int 1, .int 0])), some (.d (.tup [.int 2, .int 0]))] [.lst (psD [[(0, 0), (0, 1)], [(0, 0), (0, 1)], [(0, 0), (0, 1)], [(0, 0), (0, 1)]]), .set (psD [[(0, 0), (0, 1)]]), .lst (psD [[(0, 0), (0, 1), (1, 0)], [(0, 0), (0, 1), (0, 2)], [(0, 0), (0, 1), (1, 0)], [(0, 0), (0, 1), (1, 0)], [(0, 0), (0, 1), (0, 2)], [(0, 0), (0, 1), (1, 0)]]), .set (psD [[(0, 0), (0, 1), (1, 0)], [(0, 0), (0, 1), (0, 2)]]), .lst (psD [[(0, 0), (0, 1), (0, 2), (1, 0)], [(0, 0), (0, 1), (0, 2), (0, 3)], [(0, 0), (0, 1), (0, 2), (1, 0)], [(0, 0), (0, 1), (0, 2), (1, 1)], [(0, 0), (0, 1), (0, 2), (1, 1)], [(0, 0), (0, 1), (0, 2), (1, 0)], [(0, 0), (0, 1), (0, 2), (0, 3)], [(0, 0), (0, 1), (0, 2), (1, 0)], [(0, 0), (0, 1), (0, 2), (1, 1)], [(0, 0), (0, 1), (0, 2), (1, 1)], [(0, 0), (0, 1), (1, 1), (1, 2)], [(0, 0), (0, 1), (0, 2), (1, 0)], [(0, 0), (0, 1), (1, 0), (1, 1)], [(0, 0), (0, 1), (1, 1), (1, 2)], [(0, 0), (0, 1), (1, 0), (1, 1)], [(0, 0), (0, 1), (0, 2), (1, 0)]]), .set (psD [[(0, 0), (0, 1), (0, 2), (1, 0)], [(0, 0), (0, 1), (0, 2), (0, 3)], [(0, 0), (0, 1), (0, 2), (1, 1)], [(0, 0), (0, 1), (1, 1), (1, 2)], [(0, 0), (0, 1), (1, 0), (1, 1)]]), .lst (psD [[(0, 0), (0, 1), (0, 2), (0, 3), (1, 0)], [(0, 0), (0, 1), (0, 2), (0, 3), (0, 4)], [(0, 0), (0, 1), (0, 2), (0, 3), (1, 0)], [(0, 0), (0, 1), (0, 2), (0, 3), (1, 1)], [(0, 0), (0, 1), (0, 2), (0, 3), (1, 1)], [(0, 0), (0, 1), (0, 2), (0, 3), (1, 1)], [(0, 0), (0, 1), (0, 2), (0, 3), (1, 1)], [(0, 0), (0, 1), (0, 2), (0, 3), (1, 0)], [(0, 0), (0, 1), (0, 2), (0, 3), (0, 4)], [(0, 0), (0, 1), (0, 2), (0, 3), (1, 0)], [(0, 0), (0, 1), (0, 2), (1, 1), (2, 1)], [(0, 0), (0, 1), (0, 2), (0, 3), (1, 1)], [(0, 0), (0, 1), (1, 1), (1, 2), (2, 1)], [(0, 0), (0, 1), (0, 2), (1, 0), (1, 1)], [(0, 0), (0, 1), (1, 1), (2, 1), (2, 2)], [(0, 0), (0, 1), (0, 2), (0, 3), (1, 0)], [(0, 0), (0, 1), (0, 2), (1, 0), (1, 2)], [(0, 0), (0, 1), (0, 2), (1, 2), (1, 3)], [(0, 0), (0, 1), (0, 2), (1, 0), (1, 1)], [(0, 0), (0, 1), (0, 2), (1, 0), (2, 0)]])] := by kernel_rfl
theorem am_2 : I2m [some (.d (.int 5)), some (.d (.lst (psD Q4))), some (.d (.int 3)), some (.r 6), some (.d (pieceD [(0, 0), (0, 1), (0, 2), (1, 1)])), some (.d (.tup [.int 1, .int 0])), some (.d (.tup [.int 2, .int 0]))] [.lst (psD [[(0, 0), (0, 1)], [(0, 0), (0, 1)], [(0, 0), (0, 1)], [(0, 0), (0, 1)]]), .set (psD [[(0, 0), (0, 1)]]), .lst (psD [[(0, 0), (0, 1), (1, 0)], [(0, 0), (0, 1), (0, 2)], [(0, 0), (0, 1), (1, 0)], [(0, 0), (0, 1), (1, 0)], [(0, 0), (0, 1), (0, 2)], [(0, 0), (0, 1), (1, 0)]]), .set (psD [[(0, 0), (0, 1), (1, 0)], [(0, 0), (0, 1), (0, 2)]]), .lst (psD [[(0, 0), (0, 1), (0, 2), (1, 0)], [(0, 0), (0, 1), (0, 2), (0, 3)], [(0, 0), (0, 1), (0, 2), (1, 0)], [(0, 0), (0, 1), (0, 2), (1, 1)], [(0, 0), (0, 1), (0, 2), (1, 1)], [(0, 0), (0, 1), (0, 2), (1, 0)], [(0, 0), (0, 1), (0, 2), (0, 3)], [(0, 0), (0, 1), (0, 2), (1, 0)], [(0, 0), (0, 1), (0, 2), (1, 1)], [(0, 0), (0, 1), (0, 2), (1, 1)], [(0, 0), (0, 1), (1, 1), (1, 2)], [(0, 0), (0, 1), (0, 2), (1, 0)], [(0, 0), (0, 1), (1, 0), (1, 1)], [(0, 0), (0, 1), (1, 1), (1, 2)], [(0, 0), (0, 1), (1, 0), (1, 1)], [(0, 0), (0, 1), (0, 2), (1, 0)]]), .set (psD [[(0, 0), (0, 1), (0, 2), (1, 0)], [(0, 0), (0, 1), (0, 2), (0, 3)], [(0, 0), (0, 1), (0, 2), (1, 1)], [(0, 0), (0, 1), (1, 1), (1, 2)], [(0, 0), (0, 1), (1, 0), (1, 1)]]), .lst (psD [[(0, 0), (0, 1), (0, 2), (0, 3), (1, 0)], [(0, 0), (0, 1), (0, 2), (0, 3), (0, 4)], [(0, 0), (0, 1), (0, 2), (0, 3), (1, 0)], [(0, 0), (0, 1), (0, 2), (0, 3), (1, 1)], [(0, 0), (0, 1), (0, 2), (0, 3), (1, 1)], [(0, 0), (0, 1), (0, 2), (0, 3), (1, 1)], [(0, 0), (0, 1), (0, 2), (0, 3), (1, 1)], [(0, 0), (0, 1), (0, 2), (0, 3), (1, 0)], [(0, 0), (0, 1), (0, 2), (0, 3), (0, 4)], [(0, 0), (0, 1), (0, 2), (0, 3), (1, 0)], [(0, 0), (0, 1), (0, 2), (1, 1), (2, 1)], [(0, 0), (0, 1), (0, 2), (0, 3), (1, 1)], [(0, 0), (0, 1), (1, 1), (1, 2), (2, 1)], [(0, 0), (0, 1), (0, 2), (1, 0), (1, 1)], [(0, 0), (0, 1), (1, 1), (2, 1), (2, 2)], [(0, 0), (0, 1), (0, 2), (0, 3), (1, 0)], [(0, 0), (0, 1), (0, 2), (1, 0), (1, 2)], [(0, 0), (0, 1), (0, 2), (1, 2), (1, 3)], [(0, 0), (0, 1), (0, 2), (1, 0), (1, 1)], [(0, 0), (0, 1), (0, 2), (1, 0), (2, 0)]])] = .nx [some (.d (.int 5)), some (.d (.lst (psD Q4))), some (.d (.int 3)), some (.r 6), some (.d (pieceD [(0, 0), (0, 1), (0, 2), (1, 1)])), some (.d (.tup [.int 1, .int 1])), some (.d (.tup [.int 2, .int 1]))] [.lst (psD [[(0, 0), (0, 1)], [(0, 0), (0, 1)], [(0, 0), (0, 1)], [(0, 0), (0, 1)]]), .set (psD [[(0, 0), (0, 1)]]), .lst (psD [[(0, 0), (0, 1), (1, 0)], [(0, 0), (0, 1), (0, 2)], [(0, 0), (0, 1), (1, 0)], [(0, 0), (0, 1), (1, 0)], [(0, 0), (0, 1), (0, 2)], [(0, 0), (0, 1), (1, 0)]]), .set (psD [[(0, 0), (0, 1), (1, 0)], [(0, 0), (0, 1), (0, 2)]]), .lst (psD [[(0, 0), (0, 1), (0, 2), (1, 0)], [(0, 0), (0, 1), (0, 2), (0, 3)], [(0, 0), (0, 1), (0, 2), (1, 0)], [(0, 0), (0, 1), (0, 2), (1, 1)], [(0, 0), (0, 1), (0, 2), (1, 1)], [(0, 0), (0, 1), (0, 2), (1, 0)], [(0, 0), (0, 1), (0, 2), (0, 3)], [(0, 0), (0, 1), (0, 2), (1, 0)], [(0, 0), (0, 1), (0, 2), (1, 1)], [(0, 0), (0, 1), (0, 2), (1, 1)], [(0, 0), (0, 1), (1, 1), (1, 2)], [(0, 0), (0, 1), (0, 2), (1, 0)], [(0, 0), (0, 1), (1, 0), (1, 1)], [(0, 0), (0, 1), (1, 1), (1, 2)], [(0, 0), (0, 1), (1, 0), (1, 1)], [(0, 0), (0, 1), (0, 2), (1, 0)]]), .set (psD [[(0, 0), (0, 1), (0, 2), (1, 0)], [(0, 0), (0, 1), (0, 2), (0, 3)], [(0, 0), (0, 1), (0, 2), (1, 1)], [(0, 0), (0, 1), (1, 1), (1, 2)], [(0, 0), (0, 1), (1, 0), (1, 1)]]), .lst (psD [[(0, 0), (0, 1), (0, 2), (0, 3), (1, 0)], [(0, 0), (0, 1), (0, 2), (0, 3), (0, 4)], [(0, 0), (0, 1), (0, 2), (0, 3), (1, 0)], [(0, 0), (0, 1), (0, 2), (0, 3), (1, 1)], [(0, 0), (0, 1), (0, 2), (0, 3), (1, 1)], [(0, 0), (0, 1), (0, 2), (0, 3), (1, 1)], [(0, 0), (0, 1), (0, 2), (0, 3), (1, 1)], [(0, 0), (0, 1), (0, 2), (0, 3), (1, 0)], [(0, 0), (0, 1), (0, 2), (0, 3), (0, 4)], [(0, 0), (0, 1), (0, 2), (0, 3), (1, 0)], [(0, 0), (0, 1), (0, 2), (1, 1), (2, 1)], [(0, 0), (0, 1), (0, 2), (0, 3), (1, 1)], [(0, 0), (0, 1), (1, 1), (1, 2), (2, 1)], [(0, 0), (0, 1), (0, 2), (1, 0), (1, 1)], [(0, 0), (0, 1), (1, 1), (2, 1), (2, 2)], [(0, 0), (0, 1), (0, 2), (0, 3), (1, 0)], [(0, 0), (0, 1), (0, 2), (1, 0), (1, 2)], [(0, 0), (0, 1), (0, 2), (1, 2), (1, 3)], [(0, 0), (0, 1), (0, 2), (1, 0), (1, 1)], [(0, 0), (0, 1), (0, 2), (1, 0), (2, 0)], [(0, 0), (0, 1), (1, 1), (1, 2), (2, 1)], [(0, 0), (0, 1), (0, 2), (0, 3), (1, 1)], [(0, 0), (0, 1), (0, 2), (1, 0), (1, 1)], [(0, 1), (1, 0), (1, 1), (1, 2), (2, 1)], [(0, 0), (0, 1), (1, 1), (1, 2), (2, 1)], [(0, 0), (0, 1), (0, 2), (0, 3), (1, 1)], [(0, 0), (0, 1), (0, 2), (1, 0), (1, 1)], [(0, 0), (0, 1), (0, 2), (1, 0), (1, 1)], [(0, 0), (0, 1), (0, 2), (1, 0), (1, 1)], [(0, 0), (0, 1), (0, 2), (1, 1), (2, 1)]])] := by kernel_rfl
theorem am_3 : I2m [some (.d (.int 5)), some (.d (.lst (psD Q4))), some (.d (.int 3)), some (.r 6), some (.d (pieceD [(0, 0), (0, 1), (1, 0), (1, 1)])), some (.d (.tup [.int 1, .int 1])), some (.d (.tup [.int 2, .int 1]))] [.lst (psD [[(0, 0), (0, 1)], [(0, 0), (0, 1)], [(0, 0), (0, 1)], [(0, 0), (0, 1)]]), .set (psD [[(0, 0), (0, 1)]]), .lst (psD [[(0, 0), (0, 1), (1, 0)], [(0, 0), (0, 1), (0, 2)], [(0, 0), (0, 1), (1, 0)], [(0, 0), (0, 1), (1, 0)], [(0, 0), (0, 1), (0, 2)], [(0, 0), (0, 1), (1, 0)]]), .set (psD [[(0, 0), (0, 1), (1, 0)], [(0, 0), (0, 1), (0, 2)]]), .lst (psD [[(0, 0), (0, 1), (0, 2), (1, 0)], [(0, 0), (0, 1), (0, 2), (0, 3)], [(0, 0), (0, 1), (0, 2), (1, 0)], [(0, 0), (0, 1), (0, 2), (1, 1)], [(0, 0), (0, 1), (0, 2), (1, 1)], [(0, 0), (0, 1), (0, 2), (1, 0)], [(0, 0), (0, 1), (0, 2), (0, 3)], [(0, 0), (0, 1), (0, 2), (1, 0)], [(0, 0), (0, 1), (0, 2), (1, 1)], [(0, 0), (0, 1), (0, 2), (1, 1)], [(0, 0), (0, 1), (1, 1), (1, 2)], [(0, 0), (0, 1), (0, 2), (1, 0)], [(0, 0), (0, 1), (1, 0), (1, 1)], [(0, 0), (0, 1), (1, 1), (1, 2)], [(0, 0), (0, 1), (1, 0), (1, 1)], [(0, 0), (0, 1), (0, 2), (1, 0)]]), .set (psD [[(0, 0), (0, 1), (0, 2), (1, 0)], [(0, 0), (0, 1), (0, 2), (0, 3)], [(0, 0), (0, 1), (0, 2), (1, 1)], [(0, 0), (0, 1), (1, 1), (1, 2)], [(0, 0), (0, 1), (1, 0), (1, 1)]]), .lst (psD [[(0, 0), (0, 1), (0, 2), (0, 3), (1, 0)], [(0, 0), (0, 1), (0, 2), (0, 3), (0, 4)], [(0, 0), (0, 1), (0, 2), (0, 3), (1, 0)], [(0, 0), (0, 1), (0, 2), (0, 3), (1, 1)], [(0, 0), (0, 1), (0, 2), (0, 3), (1, 1)], [(0, 0), (0, 1), (0, 2), (0, 3), (1, 1)], [(0, 0), (0, 1), (0, 2), (0, 3), (1, 1)], [(0, 0), (0, 1), (0, 2), (0, 3), (1, 0)], [(0, 0), (0, 1), (0, 2), (0, 3), (0, 4)], [(0, 0), (0, 1), (0, 2), (0, 3), (1, 0)], [(0, 0), (0, 1), (0, 2), (1, 1), (2, 1)], [(0, 0), (0, 1), (0, 2), (0, 3), (1, 1)], [(0, 0), (0, 1), (1, 1), (1, 2), (2, 1)], [(0, 0), (0, 1), (0, 2), (1, 0), (1, 1)], [(0, 0), (0, 1), (1, 1), (2, 1), (2, 2)], [(0, 0), (0, 1), (0, 2), (0, 3), (1, 0)], [(0, 0), (0, 1), (0, 2), (1, 0), (1, 2)], [(0, 0), (0, 1), (0, 2), (1, 2), (1, 3)], [(0, 0), (0, 1), (0, 2), (1, 0), (1, 1)], [(0, 0), (0, 1), (0, 2), (1, 0), (2, 0)], [(0, 0), (0, 1), (1, 1), (1, 2), (2, 1)], [(0, 0), (0, 1), (0, 2), (0, 3), (1, 1)], [(0, 0), (0, 1), (0, 2), (1, 0), (1, 1)], [(0, 1), (1, 0), (1, 1), (1, 2), (2, 1)], [(0, 0), (0, 1), (1, 1), (1, 2), (2, 1)], [(0, 0), (0, 1), (0, 2), (0, 3), (1, 1)], [(0, 0), (0, 1), (0, 2), (1, 0), (1, 1)], [(0, 0), (0, 1), (0, 2), (1, 0), (1, 1)], [(0, 0), (0, 1), (0, 2), (1, 0), (1, 1)], [(0, 0), (0, 1), (0, 2), (1, 1), (2, 1)]])] = .nx [some (.d (.int 5)), some (.d (.lst (psD Q4))), some (.d (.int 3)), some (.r 6), some (.d (pieceD [(0, 0), (0, 1), (1, 0), (1, 1)])), some (.d (.tup [.int 1, .int 1])), some (.d (.tup [.int 2, .int 1]))] [.lst (psD [[(0, 0), (0, 1)], [(0, 0), (0, 1)], [(0, 0), (0, 1)], [(0, 0), (0, 1)]]), .set (psD [[(0, 0), (0, 1)]]), .lst (psD [[(0, 0), (0, 1), (1, 0)], [(0, 0), (0, 1), (0, 2)], [(0, 0), (0, 1), (1, 0)], [(0, 0), (0, 1), (1, 0)], [(0, 0), (0, 1), (0, 2)], [(0, 0), (0, 1), (1, 0)]]), .set (psD [[(0, 0), (0, 1), (1, 0)], [(0, 0), (0, 1), (0, 2)]]), .lst (psD [[(0, 0), (0, 1), (0, 2), (1, 0)], [(0, 0), (0, 1), (0, 2), (0, 3)], [(0, 0), (0, 1), (0, 2), (1, 0)], [(0, 0), (0, 1), (0, 2), (1, 1)], [(0, 0), (0, 1), (0, 2), (1, 1)], [(0, 0), (0, 1), (0, 2), (1, 0)], [(0, 0), (0, 1), (0, 2), (0, 3)], [(0, 0), (0, 1), (0, 2), (1, 0)], [(0, 0), (0, 1), (0, 2), (1, 1)], [(0, 0), (0, 1), (0, 2), (1, 1)], [(0, 0), (0, 1), (1, 1), (1, 2)], [(0, 0), (0, 1), (0, 2), (1, 0)], [(0, 0), (0, 1), (1, 0), (1, 1)], [(0, 0), (0, 1), (1, 1), (1, 2)], [(0, 0), (0, 1), (1, 0), (1, 1)], [(0, 0), (0, 1), (0, 2), (1, 0)]]), .set (psD [[(0, 0), (0, 1), (0, 2), (1, 0)], [(0, 0), (0, 1), (0, 2), (0, 3)], [(0, 0), (0, 1), (0, 2), (1, 1)], [(0, 0), (0, 1), (1, 1), (1, 2)], [(0, 0), (0, 1), (1, 0), (1, 1)]]), .lst (psD [[(0, 0), (0, 1), (0, 2), (0, 3), (1, 0)], [(0, 0), (0, 1), (0, 2), (0, 3), (0, 4)], [(0, 0), (0, 1), (0, 2), (0, 3), (1, 0)], [(0, 0), (0, 1), (0, 2), (0, 3), (1, 1)], [(0, 0), (0, 1), (0, 2), (0, 3), (1, 1)], [(0, 0), (0, 1), (0, 2), (0, 3), (1, 1)], [(0, 0), (0, 1), (0, 2), (0, 3), (1, 1)], [(0, 0), (0, 1), (0, 2), (0, 3), (1, 0)], [(0, 0), (0, 1), (0, 2), (0, 3), (0, 4)], [(0, 0), (0, 1), (0, 2), (0, 3), (1, 0)], [(0, 0), (0, 1), (0, 2), (1, 1), (2, 1)], [(0, 0), (0, 1), (0, 2), (0, 3), (1, 1)], [(0, 0), (0, 1), (1, 1), (1, 2), (2, 1)], [(0, 0), (0, 1), (0, 2), (1, 0), (1, 1)], [(0, 0), (0, 1), (1, 1), (2, 1), (2, 2)], [(0, 0), (0, 1), (0, 2), (0, 3), (1, 0)], [(0, 0), (0, 1), (0, 2), (1, 0), (1, 2)], [(0, 0), (0, 1), (0, 2), (1, 2), (1, 3)], [(0, 0), (0, 1), (0, 2), (1, 0), (1, 1)], [(0, 0), (0, 1), (0, 2), (1, 0), (2, 0)], [(0, 0), (0, 1), (1, 1), (1, 2), (2, 1)], [(0, 0), (0, 1), (0, 2), (0, 3), (1, 1)], [(0, 0), (0, 1), (0, 2), (1, 0), (1, 1)], [(0, 1), (1, 0), (1, 1), (1, 2), (2, 1)], [(0, 0), (0, 1), (1, 1), (1, 2), (2, 1)], [(0, 0), (0, 1), (0, 2), (0, 3), (1, 1)], [(0, 0), (0, 1), (0, 2), (1, 0), (1, 1)], [(0, 0), (0, 1), (0, 2), (1, 0), (1, 1)], [(0, 0), (0, 1), (0, 2), (1, 0), (1, 1)], [(0, 0), (0, 1), (0, 2), (1, 1), (2, 1)], [(0, 0), (0, 1), (0, 2), (1, 0), (1, 1)], [(0, 0), (0, 1), (0, 2), (1, 0), (1, 1)], [(0, 0), (0, 1), (0, 2), (1, 0), (1, 1)], [(0, 0), (0, 1), (0, 2), (1, 0), (1, 1)], [(0, 0), (0, 1), (0, 2), (1, 0), (1, 1)], [(0, 0), (0, 1), (0, 2), (1, 0), (1, 1)], [(0, 0), (0, 1), (0, 2), (1, 0), (1, 1)], [(0, 0), (0, 1), (0, 2), (1, 0), (1, 1)]])] := by kernel_rfl
theorem am_4 : I2m [some (.d (.int 5)), some (.d (.lst (psD Q4))), some (.d (.int 3)), some (.r 6), some (.d (pieceD [(0, 0), (0, 1), (1, 1), (1, 2)])), some (.d (.tup [.int 1, .int 1])), some (.d (.tup [.int 2, .int 1]))] [.lst (psD [[(0, 0), (0, 1)], [(0, 0), (0, 1)], [(0, 0), (0, 1)], [(0, 0), (0, 1)]]), .set (psD [[(0, 0), (0, 1)]]), .lst (psD [[(0, 0), (0, 1), (1, 0)], [(0, 0), (0, 1), (0, 2)], [(0, 0), (0, 1), (1, 0)], [(0, 0), (0, 1), (1, 0)], [(0, 0), (0, 1), (0, 2)], [(0, 0), (0, 1), (1, 0)]]), .set (psD [[(0, 0), (0, 1), (1, 0)], [(0, 0), (0, 1), (0, 2)]]), .lst (psD [[(0, 0), (0, 1), (0, 2), (1, 0)], [(0, 0), (0, 1), (0, 2), (0, 3)], [(0, 0), (0, 1), (0, 2), (1, 0)], [(0, 0), (0, 1), (0, 2), (1, 1)], [(0, 0), (0, 1), (0, 2), (1, 1)], [(0, 0), (0, 1), (0, 2), (1, 0)], [(0, 0), (0, 1), (0, 2), (0, 3)], [(0, 0), (0, 1), (0, 2), (1, 0)], [(0, 0), (0, 1), (0, 2), (1, 1)], [(0, 0), (0, 1), (0, 2), (1, 1)], [(0, 0), (0, 1), (1, 1), (1, 2)], [(0, 0), (0, 1), (0, 2), (1, 0)], [(0, 0), (0, 1), (1, 0), (1, 1)], [(0, 0), (0, 1), (1, 1), (1, 2)], [(0, 0), (0, 1), (1, 0), (1, 1)], [(0, 0), (0, 1), (0, 2), (1, 0)]]), .set (psD [[(0, 0), (0, 1), (0, 2), (1, 0)], [(0, 0), (0, 1), (0, 2), (0, 3)], [(0, 0), (0, 1), (0, 2), (1, 1)], [(0, 0), (0, 1), (1, 1), (1, 2)], [(0, 0), (0, 1), (1, 0), (1, 1)]]), .lst (psD [[(0, 0), (0, 1), (0, 2), (0, 3), (1, 0)], [(0, 0), (0, 1), (0, 2), (0, 3), (0, 4)], [(0, 0), (0, 1), (0, 2), (0, 3), (1, 0)], [(0, 0), (0, 1), (0, 2), (0, 3), (1, 1)], [(0, 0), (0, 1), (0, 2), (0, 3), (1, 1)], [(0, 0), (0, 1), (0, 2), (0, 3), (1, 1)], [(0, 0), (0, 1), (0, 2), (0, 3), (1, 1)], [(0, 0), (0, 1), (0, 2), (0, 3), (1, 0)], [(0, 0), (0, 1), (0, 2), (0, 3), (0, 4)], [(0, 0), (0, 1), (0, 2), (0, 3), (1, 0)], [(0, 0), (0, 1), (0, 2), (1, 1), (2, 1)], [(0, 0), (0, 1), (0, 2), (0, 3), (1, 1)], [(0, 0), (0, 1), (1, 1), (1, 2), (2, 1)], [(0, 0), (0, 1), (0, 2), (1, 0), (1, 1)], [(0, 0), (0, 1), (1, 1), (2, 1), (2, 2)], [(0, 0), (0, 1), (0, 2), (0, 3), (1, 0)], [(0, 0), (0, 1), (0, 2), (1, 0), (1, 2)], [(0, 0), (0, 1), (0, 2), (1, 2), (1, 3)], [(0, 0), (0, 1), (0, 2), (1, 0), (1, 1)], [(0, 0), (0, 1), (0, 2), (1, 0), (2, 0)], [(0, 0), (0, 1), (1, 1), (1, 2), (2, 1)], [(0, 0), (0, 1), (0, 2), (0, 3), (1, 1)], [(0, 0), (0, 1), (0, 2), (1, 0), (1, 1)], [(0, 1), (1, 0), (1, 1), (1, 2), (2, 1)], [(0, 0), (0, 1), (1, 1), (1, 2), (2, 1)], [(0, 0), (0, 1), (0, 2), (0, 3), (1, 1)], [(0, 0), (0, 1), (0, 2), (1, 0), (1, 1)], [(0, 0), (0, 1), (0, 2), (1, 0), (1, 1)], [(0, 0), (0, 1), (0, 2), (1, 0), (1, 1)], [(0, 0), (0, 1), (0, 2), (1, 1), (2, 1)], [(0, 0), (0, 1), (0, 2), (1, 0), (1, 1)], [(0, 0), (0, 1), (0, 2), (1, 0), (1, 1)], [(0, 0), (0, 1), (0, 2), (1, 0), (1, 1)], [(0, 0), (0, 1), (0, 2), (1, 0), (1, 1)], [(0, 0), (0, 1), (0, 2), (1, 0), (1, 1)], [(0, 0), (0, 1), (0, 2), (1, 0), (1, 1)], [(0, 0), (0, 1), (0, 2), (1, 0), (1, 1)], [(0, 0), (0, 1), (0, 2), (1, 0), (1, 1)]])] = .nx [some (.d (.int 5)), some (.d (.lst (psD Q4))), some (.d (.int 3)), some (.r 6), some (.d (pieceD [(0, 0), (0, 1), (1, 1), (1, 2)])), some (.d (.tup [.int 1, .int 2])), some (.d (.tup [.int 2, .int 2]))] [.lst (psD [[(0, 0), (0, 1)], [(0, 0), (0, 1)], [(0, 0), (0, 1)], [(0, 0), (0, 1)]]), .set (psD [[(0, 0), (0, 1)]]), .lst (psD [[(0, 0), (0, 1), (1, 0)], [(0, 0), (0, 1), (0, 2)], [(0, 0), (0, 1), (1, 0)], [(0, 0), (0, 1), (1, 0)], [(0, 0), (0, 1), (0, 2)], [(0, 0), (0, 1), (1, 0)]]), .set (psD [[(0, 0), (0, 1), (1, 0)], [(0, 0), (0, 1), (0, 2)]]), .lst (psD [[(0, 0), (0, 1), (0, 2), (1, 0)], [(0, 0), (0, 1), (0, 2), (0, 3)], [(0, 0), (0, 1), (0, 2), (1, 0)], [(0, 0), (0, 1), (0, 2), (1, 1)], [(0, 0), (0, 1), (0, 2), (1, 1)], [(0, 0), (0, 1), (0, 2), (1, 0)], [(0, 0), (0, 1), (0, 2), (0, 3)], [(0, 0), (0, 1), (0, 2), (1, 0)], [(0, 0), (0, 1), (0, 2), (1, 1)], [(0, 0), (0, 1), (0, 2), (1, 1)], [(0, 0), (0, 1), (1, 1), (1, 2)], [(0, 0), (0, 1), (0, 2), (1, 0)], [(0, 0), (0, 1), (1, 0), (1, 1)], [(0, 0), (0, 1), (1, 1), (1, 2)], [(0, 0), (0, 1), (1, 0), (1, 1)], [(0, 0), (0, 1), (0, 2), (1, 0)]]), .set (psD [[(0, 0), (0, 1), (0, 2), (1, 0)], [(0, 0), (0, 1), (0, 2), (0, 3)], [(0, 0), (0, 1), (0, 2), (1, 1)], [(0, 0), (0, 1), (1, 1), (1, 2)], [(0, 0), (0, 1), (1, 0), (1, 1)]]), .lst (psD [[(0, 0), (0, 1), (0, 2), (0, 3), (1, 0)], [(0, 0), (0, 1), (0, 2), (0, 3), (0, 4)], [(0, 0), (0, 1), (0, 2), (0, 3), (1, 0)], [(0, 0), (0, 1), (0, 2), (0, 3), (1, 1)], [(0, 0), (0, 1), (0, 2), (0, 3), (1, 1)], [(0, 0), (0, 1), (0, 2), (0, 3), (1, 1)], [(0, 0), (0, 1), (0, 2), (0, 3), (1, 1)], [(0, 0), (0, 1), (0, 2), (0, 3), (1, 0)], [(0, 0), (0, 1), (0, 2), (0, 3), (0, 4)], [(0, 0), (0, 1), (0, 2), (0, 3), (1, 0)], [(0, 0), (0, 1), (0, 2), (1, 1), (2, 1)], [(0, 0), (0, 1), (0, 2), (0, 3), (1, 1)], [(0, 0), (0, 1), (1, 1), (1, 2), (2, 1)], [(0, 0), (0, 1), (0, 2), (1, 0), (1, 1)], [(0, 0), (0, 1), (1, 1), (2, 1), (2, 2)], [(0, 0), (0, 1), (0, 2), (0, 3), (1, 0)], [(0, 0), (0, 1), (0, 2), (1, 0), (1, 2)], [(0, 0), (0, 1), (0, 2), (1, 2), (1, 3)], [(0, 0), (0, 1), (0, 2), (1, 0), (1, 1)], [(0, 0), (0, 1), (0, 2), (1, 0), (2, 0)], [(0, 0), (0, 1), (1, 1), (1, 2), (2, 1)], [(0, 0), (0, 1), (0, 2), (0, 3), (1, 1)], [(0, 0), (0, 1), (0, 2), (1, 0), (1, 1)], [(0, 1), (1, 0), (1, 1), (1, 2), (2, 1)], [(0, 0), (0, 1), (1, 1), (1, 2), (2, 1)], [(0, 0), (0, 1), (0, 2), (0, 3), (1, 1)], [(0, 0), (0, 1), (0, 2), (1, 0), (1, 1)], [(0, 0), (0, 1), (0, 2), (1, 0), (1, 1)], [(0, 0), (0, 1), (0, 2), (1, 0), (1, 1)], [(0, 0), (0, 1), (0, 2), (1, 1), (2, 1)], [(0, 0), (0, 1), (0, 2), (1, 0), (1, 1)], [(0, 0), (0, 1), (0, 2), (1, 0), (1, 1)], [(0, 0), (0, 1), (0, 2), (1, 0), (1, 1)], [(0, 0), (0, 1), (0, 2), (1, 0), (1, 1)], [(0, 0), (0, 1), (0, 2), (1, 0), (1, 1)], [(0, 0), (0, 1), (0, 2), (1, 0), (1, 1)], [(0, 0), (0, 1), (0, 2), (1, 0), (1, 1)], [(0, 0), (0, 1), (0, 2), (1, 0), (1, 1)], [(0, 0), (0, 1), (1, 1), (1, 2), (2, 2)], [(0, 0), (0, 1), (0, 2), (1, 2), (1, 3)], [(0, 0), (0, 1), (0, 2), (1, 0), (1, 1)], [(0, 0), (0, 1), (1, 1), (1, 2), (2, 1)], [(0, 0), (0, 1), (0, 2), (1, 0), (1, 1)], [(0, 0), (0, 1), (0, 2), (1, 0), (1, 1)], [(0, 0), (0, 1), (1, 1), (1, 2), (2, 1)], [(0, 0), (0, 1), (0, 2), (1, 0), (1, 1)], [(0, 0), (0, 1), (0, 2), (1, 2), (1, 3)], [(0, 0), (0, 1), (1, 1), (1, 2), (2, 2)]])] := by kernel_rfl
theorem am_end : (sSet 1 (dCall (gSortB false) (dCons (dCall gSetOf (dCons (dVar 3) dNil)) dNil))) [some (.d (.int 5)), some (.d (.lst (psD Q4))), some (.d (.int 3)), some (.r 6), some (.d (pieceD [(0, 0), (0, 1), (1, 1), (1, 2)])), some (.d (.tup [.int 1, .int 2])), some (.d (.tup [.int 2, .int 2]))] [.lst (psD [[(0, 0), (0, 1)], [(0, 0), (0, 1)], [(0, 0), (0, 1)], [(0, 0), (0, 1)]]), .set (psD [[(0, 0), (0, 1)]]), .lst (psD [[(0, 0), (0, 1), (1, 0)], [(0, 0), (0, 1), (0, 2)], [(0, 0), (0, 1), (1, 0)], [(0, 0), (0, 1), (1, 0)], [(0, 0), (0, 1), (0, 2)], [(0, 0), (0, 1), (1, 0)]]), .set (psD [[(0, 0), (0, 1), (1, 0)], [(0, 0), (0, 1), (0, 2)]]), .lst (psD [[(0, 0), (0, 1), (0, 2), (1, 0)], [(0, 0), (0, 1), (0, 2), (0, 3)], [(0, 0), (0, 1), (0, 2), (1, 0)], [(0, 0), (0, 1), (0, 2), (1, 1)], [(0, 0), (0, 1), (0, 2), (1, 1)], [(0, 0), (0, 1), (0, 2), (1, 0)], [(0, 0), (0, 1), (0, 2), (0, 3)], [(0, 0), (0, 1), (0, 2), (1, 0)], [(0, 0), (0, 1), (0, 2), (1, 1)], [(0, 0), (0, 1), (0, 2), (1, 1)], [(0, 0), (0, 1), (1, 1), (1, 2)], [(0, 0), (0, 1), (0, 2), (1, 0)], [(0, 0), (0, 1), (1, 0), (1, 1)], [(0, 0), (0, 1), (1, 1), (1, 2)], [(0, 0), (0, 1), (1, 0), (1, 1)], [(0, 0), (0, 1), (0, 2), (1, 0)]]), .set (psD [[(0, 0), (0, 1), (0, 2), (1, 0)], [(0, 0), (0, 1), (0, 2), (0, 3)], [(0, 0), (0, 1), (0, 2), (1, 1)], [(0, 0), (0, 1), (1, 1), (1, 2)], [(0, 0), (0, 1), (1, 0), (1, 1)]]), .lst (psD [[(0, 0), (0, 1), (0, 2), (0, 3), (1, 0)], [(0, 0), (0, 1), (0, 2), (0, 3), (0, 4)], [(0, 0), (0, 1), (0, 2), (0, 3), (1, 0)], [(0, 0), (0, 1), (0, 2), (0, 3), (1, 1)], [(0, 0), (0, 1), (0, 2), (0, 3), (1, 1)], [(0, 0), (0, 1), (0, 2), (0, 3), (1, 1)], [(0, 0), (0, 1), (0, 2), (0, 3), (1, 1)], [(0, 0), (0, 1), (0, 2), (0, 3), (1, 0)], [(0, 0), (0, 1), (0, 2), (0, 3), (0, 4)], [(0, 0), (0, 1), (0, 2), (0, 3), (1, 0)], [(0, 0), (0, 1), (0, 2), (1, 1), (2, 1)], [(0, 0), (0, 1), (0, 2), (0, 3), (1, 1)], [(0, 0), (0, 1), (1, 1), (1, 2), (2, 1)], [(0, 0), (0, 1), (0, 2), (1, 0), (1, 1)], [(0, 0), (0, 1), (1, 1), (2, 1), (2, 2)], [(0, 0), (0, 1), (0, 2), (0, 3), (1, 0)], [(0, 0), (0, 1), (0, 2), (1, 0), (1, 2)], [(0, 0), (0, 1), (0, 2), (1, 2), (1, 3)], [(0, 0), (0, 1), (0, 2), (1, 0), (1, 1)], [(0, 0), (0, 1), (0, 2), (1, 0), (2, 0)], [(0, 0), (0, 1), (1, 1), (1, 2), (2, 1)], [(0, 0), (0, 1), (0, 2), (0, 3), (1, 1)], [(0, 0), (0, 1), (0, 2), (1, 0), (1, 1)], [(0, 1), (1, 0), (1, 1), (1, 2), (2, 1)], [(0, 0), (0, 1), (1, 1), (1, 2), (2, 1)], [(0, 0), (0, 1), (0, 2), (0, 3), (1, 1)], [(0, 0), (0, 1), (0, 2), (1, 0), (1, 1)], [(0, 0), (0, 1), (0, 2), (1, 0), (1, 1)], [(0, 0), (0, 1), (0, 2), (1, 0), (1, 1)], [(0, 0), (0, 1), (0, 2), (1, 1), (2, 1)], [(0, 0), (0, 1), (0, 2), (1, 0), (1, 1)], [(0, 0), (0, 1), (0, 2), (1, 0), (1, 1)], [(0, 0), (0, 1), (0, 2), (1, 0), (1, 1)], [(0, 0), (0, 1), (0, 2), (1, 0), (1, 1)], [(0, 0), (0, 1), (0, 2), (1, 0), (1, 1)], [(0, 0), (0, 1), (0, 2), (1, 0), (1, 1)], [(0, 0), (0, 1), (0, 2), (1, 0), (1, 1)], [(0, 0), (0, 1), (0, 2), (1, 0), (1, 1)], [(0, 0), (0, 1), (1, 1), (1, 2), (2, 2)], [(0, 0), (0, 1), (0, 2), (1, 2), (1, 3)], [(0, 0), (0, 1), (0, 2), (1, 0), (1, 1)], [(0, 0), (0, 1), (1, 1), (1, 2), (2, 1)], [(0, 0), (0, 1), (0, 2), (1, 0), (1, 1)], [(0, 0), (0, 1), (0, 2), (1, 0), (1, 1)], [(0, 0), (0, 1), (1, 1), (1, 2), (2, 1)], [(0, 0), (0, 1), (0, 2), (1, 0), (1, 1)], [(0, 0), (0, 1), (0, 2), (1, 2), (1, 3)], [(0, 0), (0, 1), (1, 1), (1, 2), (2, 2)]])] = .nx [some (.d (.int 5)), some (.d (.lst (psD [[(0, 0), (0, 1), (0, 2), (0, 3), (0, 4)], [(0, 0), (0, 1), (0, 2), (0, 3), (1, 0)], [(0, 0), (0, 1), (0, 2), (0, 3), (1, 1)], [(0, 0), (0, 1), (0, 2), (1, 0), (1, 1)], [(0, 0), (0, 1), (0, 2), (1, 0), (1, 2)], [(0, 0), (0, 1), (0, 2), (1, 0), (2, 0)], [(0, 0), (0, 1), (0, 2), (1, 1), (2, 1)], [(0, 0), (0, 1), (0, 2), (1, 2), (1, 3)], [(0, 0), (0, 1), (1, 1), (1, 2), (2, 1)], [(0, 0), (0, 1), (1, 1), (1, 2), (2, 2)], [(0, 0), (0, 1), (1, 1), (2, 1), (2, 2)], [(0, 1), (1, 0), (1, 1), (1, 2), (2, 1)]]))), some (.d (.int 3)), some (.r 6), some (.d (pieceD [(0, 0), (0, 1), (1, 1), (1, 2)])), some (.d (.tup [.int 1, .int 2])), some (.d (.tup [.int 2, .int 2]))] [.lst (psD [[(0, 0), (0, 1)], [(0, 0), (0, 1)], [(0, 0), (0, 1)], [(0, 0), (0, 1)]]), .set (psD [[(0, 0), (0, 1)]]), .lst (psD [[(0, 0), (0, 1), (1, 0)], [(0, 0), (0, 1), (0, 2)], [(0, 0), (0, 1), (1, 0)], [(0, 0), (0, 1), (1, 0)], [(0, 0), (0, 1), (0, 2)], [(0, 0), (0, 1), (1, 0)]]), .set (psD [[(0, 0), (0, 1), (1, 0)], [(0, 0), (0, 1), (0, 2)]]), .lst (psD [[(0, 0), (0, 1), (0, 2), (1, 0)], [(0, 0), (0, 1), (0, 2), (0, 3)], [(0, 0), (0, 1), (0, 2), (1, 0)], [(0, 0), (0, 1), (0, 2), (1, 1)], [(0, 0), (0, 1), (0, 2), (1, 1)], [(0, 0), (0, 1), (0, 2), (1, 0)], [(0, 0), (0, 1), (0, 2), (0, 3)], [(0, 0), (0, 1), (0, 2), (1, 0)], [(0, 0), (0, 1), (0, 2), (1, 1)], [(0, 0), (0, 1), (0, 2), (1, 1)], [(0, 0), (0, 1), (1, 1), (1, 2)], [(0, 0), (0, 1), (0, 2), (1, 0)], [(0, 0), (0, 1), (1, 0), (1, 1)], [(0, 0), (0, 1), (1, 1), (1, 2)], [(0, 0), (0, 1), (1, 0), (1, 1)], [(0, 0), (0, 1), (0, 2), (1, 0)]]), .set (psD [[(0, 0), (0, 1), (0, 2), (1, 0)], [(0, 0), (0, 1), (0, 2), (0, 3)], [(0, 0), (0, 1), (0, 2), (1, 1)], [(0, 0), (0, 1), (1, 1), (1, 2)], [(0, 0), (0, 1), (1, 0), (1, 1)]]), .lst (psD [[(0, 0), (0, 1), (0, 2), (0, 3), (1, 0)], [(0, 0), (0, 1), (0, 2), (0, 3), (0, 4)], [(0, 0), (0, 1), (0, 2), (0, 3), (1, 0)], [(0, 0), (0, 1), (0, 2), (0, 3), (1, 1)], [(0, 0), (0, 1), (0, 2), (0, 3), (1, 1)], [(0, 0), (0, 1), (0, 2), (0, 3), (1, 1)], [(0, 0), (0, 1), (0, 2), (0, 3), (1, 1)], [(0, 0), (0, 1), (0, 2), (0, 3), (1, 0)], [(0, 0), (0, 1), (0, 2), (0, 3), (0, 4)], [(0, 0), (0, 1), (0, 2), (0, 3), (1, 0)], [(0, 0), (0, 1), (0, 2), (1, 1), (2, 1)], [(0, 0), (0, 1), (0, 2), (0, 3), (1, 1)], [(0, 0), (0, 1), (1, 1), (1, 2), (2, 1)], [(0, 0), (0, 1), (0, 2), (1, 0), (1, 1)], [(0, 0), (0, 1), (1, 1), (2, 1), (2, 2)], [(0, 0), (0, 1), (0, 2), (0, 3), (1, 0)], [(0, 0), (0, 1), (0, 2), (1, 0), (1, 2)], [(0, 0), (0, 1), (0, 2), (1, 2), (1, 3)], [(0, 0), (0, 1), (0, 2), (1, 0), (1, 1)], [(0, 0), (0, 1), (0, 2), (1, 0), (2, 0)], [(0, 0), (0, 1), (1, 1), (1, 2), (2, 1)], [(0, 0), (0, 1), (0, 2), (0, 3), (1, 1)], [(0, 0), (0, 1), (0, 2), (1, 0), (1, 1)], [(0, 1), (1, 0), (1, 1), (1, 2), (2, 1)], [(0, 0), (0, 1), (1, 1), (1, 2), (2, 1)], [(0, 0), (0, 1), (0, 2), (0, 3), (1, 1)], [(0, 0), (0, 1), (0, 2), (1, 0), (1, 1)], [(0, 0), (0, 1), (0, 2), (1, 0), (1, 1)], [(0, 0), (0, 1), (0, 2), (1, 0), (1, 1)], [(0, 0), (0, 1), (0, 2), (1, 1), (2, 1)], [(0, 0), (0, 1), (0, 2), (1, 0), (1, 1)], [(0, 0), (0, 1), (0, 2), (1, 0), (1, 1)], [(0, 0), (0, 1), (0, 2), (1, 0), (1, 1)], [(0, 0), (0, 1), (0, 2), (1, 0), (1, 1)], [(0, 0), (0, 1), (0, 2), (1, 0), (1, 1)], [(0, 0), (0, 1), (0, 2), (1, 0), (1, 1)], [(0, 0), (0, 1), (0, 2), (1, 0), (1, 1)], [(0, 0), (0, 1), (0, 2), (1, 0), (1, 1)], [(0, 0), (0, 1), (1, 1), (1, 2), (2, 2)], [(0, 0), (0, 1), (0, 2), (1, 2), (1, 3)], [(0, 0), (0, 1), (0, 2), (1, 0), (1, 1)], [(0, 0), (0, 1), (1, 1), (1, 2), (2, 1)], [(0, 0), (0, 1), (0, 2), (1, 0), (1, 1)], [(0, 0), (0, 1), (0, 2), (1, 0), (1, 1)], [(0, 0), (0, 1), (1, 1), (1, 2), (2, 1)], [(0, 0), (0, 1), (0, 2), (1, 0), (1, 1)], [(0, 0), (0, 1), (0, 2), (1, 2), (1, 3)], [(0, 0), (0, 1), (1, 1), (1, 2), (2, 2)]]), .set (psD [[(0, 0), (0, 1), (0, 2), (0, 3), (1, 0)], [(0, 0), (0, 1), (0, 2), (0, 3), (0, 4)], [(0, 0), (0, 1), (0, 2), (0, 3), (1, 1)], [(0, 0), (0, 1), (0, 2), (1, 1), (2, 1)], [(0, 0), (0, 1), (1, 1), (1, 2), (2, 1)], [(0, 0), (0, 1), (0, 2), (1, 0), (1, 1)], [(0, 0), (0, 1), (1, 1), (2, 1), (2, 2)], [(0, 0), (0, 1), (0, 2), (1, 0), (1, 2)], [(0, 0), (0, 1), (0, 2), (1, 2), (1, 3)], [(0, 0), (0, 1), (0, 2), (1, 0), (2, 0)], [(0, 1), (1, 0), (1, 1), (1, 2), (2, 1)], [(0, 0), (0, 1), (1, 1), (1, 2), (2, 2)]])] := by kernel_rfl
theorem go_step {it : Wlk} (hc : it.cell = none) {i : Nat} {body : SD} {d : D} {ds : List D} {rho rho0 rho1 : Rho} {S S1 : Stor} {r : RS} (ht : rho.set i (some (.d d)) = rho0) (h : body rho0 S = .nx rho1 S1) (h2 : forGo it (tgN i) body ds rho1 S1 = r) : forGo it (tgN i) body (d :: ds) rho S = r := by
  have ok : cellOk it S = true := by unfold cellOk; rw [hc]
  rw [forGo, if_pos ok]
  show (match body (rho.set i (some (.d d))) S with | .nx r S' => forGo it (tgN i) body ds r S' | .ct r S' => forGo it (tgN i) body ds r S' | .bk r S' => .nx r S' | o => o) = r
  rw [ht, h]
  exact h2
theorem go_end {it : Wlk} (hc : it.cell = none) {i : Nat} {body : SD} {rho : Rho} {S : Stor} : forGo it (tgN i) body [] rho S = .nx rho S := by
  have ok : cellOk it S = true := by unfold cellOk; rw [hc]
  rw [forGo, if_pos ok]
theorem go_4 {it : Wlk} (hc : it.cell = none) {i : Nat} {B : SD} {d0 d1 d2 d3 : D} {q0 q1 q2 q3 r0 r1 r2 r3 r4 : Rho} {S0 S1 S2 S3 S4 : Stor} (e0 : r0.set i (some (.d d0)) = q0) (e1 : r1.set i (some (.d d1)) = q1) (e2 : r2.set i (some (.d d2)) = q2) (e3 : r3.set i (some (.d d3)) = q3)
    (h0 : B q0 S0 = .nx r1 S1) (h1 : B q1 S1 = .nx r2 S2) (h2 : B q2 S2 = .nx r3 S3) (h3 : B q3 S3 = .nx r4 S4) : forGo it (tgN i) B [d0, d1, d2, d3] r0 S0 = .nx r4 S4 :=
  go_step hc e0 h0 (go_step hc e1 h1 (go_step hc e2 h2 (go_step hc e3 h3 (go_end hc))))
theorem go_5 {it : Wlk} (hc : it.cell = none) {i : Nat} {B : SD} {d0 d1 d2 d3 d4 : D} {q0 q1 q2 q3 q4 r0 r1 r2 r3 r4 r5 : Rho} {S0 S1 S2 S3 S4 S5 : Stor} (e0 : r0.set i (some (.d d0)) = q0) (e1 : r1.set i (some (.d d1)) = q1) (e2 : r2.set i (some (.d d2)) = q2) (e3 : r3.set i (some (.d d3)) = q3) (e4 : r4.set i (some (.d d4)) = q4)
    (h0 : B q0 S0 = .nx r1 S1) (h1 : B q1 S1 = .nx r2 S2) (h2 : B q2 S2 = .nx r3 S3) (h3 : B q3 S3 = .nx r4 S4) (h4 : B q4 S4 = .nx r5 S5) : forGo it (tgN i) B [d0, d1, d2, d3, d4] r0 S0 = .nx r5 S5 :=
  go_step hc e0 h0 (go_step hc e1 h1 (go_step hc e2 h2 (go_step hc e3 h3 (go_step hc e4 h4 (go_end hc)))))
theorem one_4e : ∃ S, F__one_cell_more [.d (.lst (psD Q4))] [] = .ok (.d (.lst (psD Q5))) S := by
  refine ⟨[.set (psD [[(0, 0), (0, 1), (0, 2), (0, 3), (1, 0)], [(0, 0), (0, 1), (0, 2), (0, 3), (0, 4)], [(0, 0), (0, 1), (0, 2), (0, 3), (1, 1)], [(0, 0), (0, 1), (0, 2), (1, 1), (2, 1)], [(0, 0), (0, 1), (1, 1), (1, 2), (2, 1)], [(0, 0), (0, 1), (0, 2), (1, 0), (1, 1)], [(0, 0), (0, 1), (1, 1), (2, 1), (2, 2)], [(0, 0), (0, 1), (0, 2), (1, 0), (1, 2)], [(0, 0), (0, 1), (0, 2), (1, 2), (1, 3)], [(0, 0), (0, 1), (0, 2), (1, 0), (2, 0)], [(0, 1), (1, 0), (1, 1), (1, 2), (2, 1)], [(0, 0), (0, 1), (1, 1), (1, 2), (2, 2)]])], ?_⟩
  unfold F__one_cell_more
  refine runDef_rt rfl (rho := [some (.d (.lst (psD Q4))), none, none, none, none]) ?_
  unfold body__one_cell_more
  refine (sSeq_nx (rho' := [some (.d (.lst (psD Q4))), some (.r 0), none, none, none]) (S' := [.set []]) (by kernel_rfl)).trans ?_
  refine (sSeq_nx (rho' := [some (.d (.lst (psD Q4))), some (.r 0), some (.d (pieceD [(0, 0), (0, 1), (1, 1), (1, 2)])), some (.d (.tup [.int 1, .int 2])), some (.d (.tup [.int 2, .int 2]))]) (S' := [.set (psD [[(0, 0), (0, 1), (0, 2), (0, 3), (1, 0)], [(0, 0), (0, 1), (0, 2), (0, 3), (0, 4)], [(0, 0), (0, 1), (0, 2), (0, 3), (1, 1)], [(0, 0), (0, 1), (0, 2), (1, 1), (2, 1)], [(0, 0), (0, 1), (1, 1), (1, 2), (2, 1)], [(0, 0), (0, 1), (0, 2), (1, 0), (1, 1)], [(0, 0), (0, 1), (1, 1), (2, 1), (2, 2)], [(0, 0), (0, 1), (0, 2), (1, 0), (1, 2)], [(0, 0), (0, 1), (0, 2), (1, 2), (1, 3)], [(0, 0), (0, 1), (0, 2), (1, 0), (2, 0)], [(0, 1), (1, 0), (1, 1), (1, 2), (2, 1)], [(0, 0), (0, 1), (1, 1), (1, 2), (2, 2)]])]) ?_).trans ?_
  · exact sFor_ok (its := [pieceD [(0, 0), (0, 1), (0, 2), (0, 3)], pieceD [(0, 0), (0, 1), (0, 2), (1, 0)], pieceD [(0, 0), (0, 1), (0, 2), (1, 1)], pieceD [(0, 0), (0, 1), (1, 0), (1, 1)], pieceD [(0, 0), (0, 1), (1, 1), (1, 2)]]) (S1 := [.set []]) (by kernel_rfl) (go_5 (B := I1m) rfl rfl rfl rfl rfl rfl om_0 om_1 om_2 om_3 om_4)
  · kernel_rfl
theorem at_3 : T2m [some (.d (.int 5)), some (.d (.lst (psD Q4))), some (.d (.int 3)), some (.r 4), some (.d (pieceD [(0, 0), (0, 1), (1, 0)])), some (.d (.tup [.int 1, .int 0])), some (.d (.tup [.int 2, .int 0]))] [.lst (psD [[(0, 0), (0, 1)], [(0, 0), (0, 1)], [(0, 0), (0, 1)], [(0, 0), (0, 1)]]), .set (psD [[(0, 0), (0, 1)]]), .lst (psD [[(0, 0), (0, 1), (1, 0)], [(0, 0), (0, 1), (0, 2)], [(0, 0), (0, 1), (1, 0)], [(0, 0), (0, 1), (1, 0)], [(0, 0), (0, 1), (0, 2)], [(0, 0), (0, 1), (1, 0)]]), .set (psD [[(0, 0), (0, 1), (1, 0)], [(0, 0), (0, 1), (0, 2)]]), .lst (psD [[(0, 0), (0, 1), (0, 2), (1, 0)], [(0, 0), (0, 1), (0, 2), (0, 3)], [(0, 0), (0, 1), (0, 2), (1, 0)], [(0, 0), (0, 1), (0, 2), (1, 1)], [(0, 0), (0, 1), (0, 2), (1, 1)], [(0, 0), (0, 1), (0, 2), (1, 0)], [(0, 0), (0, 1), (0, 2), (0, 3)], [(0, 0), (0, 1), (0, 2), (1, 0)], [(0, 0), (0, 1), (0, 2), (1, 1)], [(0, 0), (0, 1), (0, 2), (1, 1)], [(0, 0), (0, 1), (1, 1), (1, 2)], [(0, 0), (0, 1), (0, 2), (1, 0)], [(0, 0), (0, 1), (1, 0), (1, 1)], [(0, 0), (0, 1), (1, 1), (1, 2)], [(0, 0), (0, 1), (1, 0), (1, 1)], [(0, 0), (0, 1), (0, 2), (1, 0)]]), .set (psD [[(0, 0), (0, 1), (0, 2), (1, 0)], [(0, 0), (0, 1), (0, 2), (0, 3)], [(0, 0), (0, 1), (0, 2), (1, 1)], [(0, 0), (0, 1), (1, 1), (1, 2)], [(0, 0), (0, 1), (1, 0), (1, 1)]])] = .nx [some (.d (.int 5)), some (.d (.lst (psD [[(0, 0), (0, 1), (0, 2), (0, 3), (0, 4)], [(0, 0), (0, 1), (0, 2), (0, 3), (1, 0)], [(0, 0), (0, 1), (0, 2), (0, 3), (1, 1)], [(0, 0), (0, 1), (0, 2), (1, 0), (1, 1)], [(0, 0), (0, 1), (0, 2), (1, 0), (1, 2)], [(0, 0), (0, 1), (0, 2), (1, 0), (2, 0)], [(0, 0), (0, 1), (0, 2), (1, 1), (2, 1)], [(0, 0), (0, 1), (0, 2), (1, 2), (1, 3)], [(0, 0), (0, 1), (1, 1), (1, 2), (2, 1)], [(0, 0), (0, 1), (1, 1), (1, 2), (2, 2)], [(0, 0), (0, 1), (1, 1), (2, 1), (2, 2)], [(0, 1), (1, 0), (1, 1), (1, 2), (2, 1)]]))), some (.d (.int 3)), some (.r 6), some (.d (pieceD [(0, 0), (0, 1), (1, 1), (1, 2)])), some (.d (.tup [.int 1, .int 2])), some (.d (.tup [.int 2, .int 2]))] [.lst (psD [[(0, 0), (0, 1)], [(0, 0), (0, 1)], [(0, 0), (0, 1)], [(0, 0), (0, 1)]]), .set (psD [[(0, 0), (0, 1)]]), .lst (psD [[(0, 0), (0, 1), (1, 0)], [(0, 0), (0, 1), (0, 2)], [(0, 0), (0, 1), (1, 0)], [(0, 0), (0, 1), (1, 0)], [(0, 0), (0, 1), (0, 2)], [(0, 0), (0, 1), (1, 0)]]), .set (psD [[(0, 0), (0, 1), (1, 0)], [(0, 0), (0, 1), (0, 2)]]), .lst (psD [[(0, 0), (0, 1), (0, 2), (1, 0)], [(0, 0), (0, 1), (0, 2), (0, 3)], [(0, 0), (0, 1), (0, 2), (1, 0)], [(0, 0), (0, 1), (0, 2), (1, 1)], [(0, 0), (0, 1), (0, 2), (1, 1)], [(0, 0), (0, 1), (0, 2), (1, 0)], [(0, 0), (0, 1), (0, 2), (0, 3)], [(0, 0), (0, 1), (0, 2), (1, 0)], [(0, 0), (0, 1), (0, 2), (1, 1)], [(0, 0), (0, 1), (0, 2), (1, 1)], [(0, 0), (0, 1), (1, 1), (1, 2)], [(0, 0), (0, 1), (0, 2), (1, 0)], [(0, 0), (0, 1), (1, 0), (1, 1)], [(0, 0), (0, 1), (1, 1), (1, 2)], [(0, 0), (0, 1), (1, 0), (1, 1)], [(0, 0), (0, 1), (0, 2), (1, 0)]]), .set (psD [[(0, 0), (0, 1), (0, 2), (1, 0)], [(0, 0), (0, 1), (0, 2), (0, 3)], [(0, 0), (0, 1), (0, 2), (1, 1)], [(0, 0), (0, 1), (1, 1), (1, 2)], [(0, 0), (0, 1), (1, 0), (1, 1)]]), .lst (psD [[(0, 0), (0, 1), (0, 2), (0, 3), (1, 0)], [(0, 0), (0, 1), (0, 2), (0, 3), (0, 4)], [(0, 0), (0, 1), (0, 2), (0, 3), (1, 0)], [(0, 0), (0, 1), (0, 2), (0, 3), (1, 1)], [(0, 0), (0, 1), (0, 2), (0, 3), (1, 1)], [(0, 0), (0, 1), (0, 2), (0, 3), (1, 1)], [(0, 0), (0, 1), (0, 2), (0, 3), (1, 1)], [(0, 0), (0, 1), (0, 2), (0, 3), (1, 0)], [(0, 0), (0, 1), (0, 2), (0, 3), (0, 4)], [(0, 0), (0, 1), (0, 2), (0, 3), (1, 0)], [(0, 0), (0, 1), (0, 2), (1, 1), (2, 1)], [(0, 0), (0, 1), (0, 2), (0, 3), (1, 1)], [(0, 0), (0, 1), (1, 1), (1, 2), (2, 1)], [(0, 0), (0, 1), (0, 2), (1, 0), (1, 1)], [(0, 0), (0, 1), (1, 1), (2, 1), (2, 2)], [(0, 0), (0, 1), (0, 2), (0, 3), (1, 0)], [(0, 0), (0, 1), (0, 2), (1, 0), (1, 2)], [(0, 0), (0, 1), (0, 2), (1, 2), (1, 3)], [(0, 0), (0, 1), (0, 2), (1, 0), (1, 1)], [(0, 0), (0, 1), (0, 2), (1, 0), (2, 0)], [(0, 0), (0, 1), (1, 1), (1, 2), (2, 1)], [(0, 0), (0, 1), (0, 2), (0, 3), (1, 1)], [(0, 0), (0, 1), (0, 2), (1, 0), (1, 1)], [(0, 1), (1, 0), (1, 1), (1, 2), (2, 1)], [(0, 0), (0, 1), (1, 1), (1, 2), (2, 1)], [(0, 0), (0, 1), (0, 2), (0, 3), (1, 1)], [(0, 0), (0, 1), (0, 2), (1, 0), (1, 1)], [(0, 0), (0, 1), (0, 2), (1, 0), (1, 1)], [(0, 0), (0, 1), (0, 2), (1, 0), (1, 1)], [(0, 0), (0, 1), (0, 2), (1, 1), (2, 1)], [(0, 0), (0, 1), (0, 2), (1, 0), (1, 1)], [(0, 0), (0, 1), (0, 2), (1, 0), (1, 1)], [(0, 0), (0, 1), (0, 2), (1, 0), (1, 1)], [(0, 0), (0, 1), (0, 2), (1, 0), (1, 1)], [(0, 0), (0, 1), (0, 2), (1, 0), (1, 1)], [(0, 0), (0, 1), (0, 2), (1, 0), (1, 1)], [(0, 0), (0, 1), (0, 2), (1, 0), (1, 1)], [(0, 0), (0, 1), (0, 2), (1, 0), (1, 1)], [(0, 0), (0, 1), (1, 1), (1, 2), (2, 2)], [(0, 0), (0, 1), (0, 2), (1, 2), (1, 3)], [(0, 0), (0, 1), (0, 2), (1, 0), (1, 1)], [(0, 0), (0, 1), (1, 1), (1, 2), (2, 1)], [(0, 0), (0, 1), (0, 2), (1, 0), (1, 1)], [(0, 0), (0, 1), (0, 2), (1, 0), (1, 1)], [(0, 0), (0, 1), (1, 1), (1, 2), (2, 1)], [(0, 0), (0, 1), (0, 2), (1, 0), (1, 1)], [(0, 0), (0, 1), (0, 2), (1, 2), (1, 3)], [(0, 0), (0, 1), (1, 1), (1, 2), (2, 2)]]), .set (psD [[(0, 0), (0, 1), (0, 2), (0, 3), (1, 0)], [(0, 0), (0, 1), (0, 2), (0, 3), (0, 4)], [(0, 0), (0, 1), (0, 2), (0, 3), (1, 1)], [(0, 0), (0, 1), (0, 2), (1, 1), (2, 1)], [(0, 0), (0, 1), (1, 1), (1, 2), (2, 1)], [(0, 0), (0, 1), (0, 2), (1, 0), (1, 1)], [(0, 0), (0, 1), (1, 1), (2, 1), (2, 2)], [(0, 0), (0, 1), (0, 2), (1, 0), (1, 2)], [(0, 0), (0, 1), (0, 2), (1, 2), (1, 3)], [(0, 0), (0, 1), (0, 2), (1, 0), (2, 0)], [(0, 1), (1, 0), (1, 1), (1, 2), (2, 1)], [(0, 0), (0, 1), (1, 1), (1, 2), (2, 2)]])] := by
  unfold T2m
  refine (sSeq_nx (rho' := [some (.d (.int 5)), some (.d (.lst (psD Q4))), some (.d (.int 3)), some (.r 6), some (.d (pieceD [(0, 0), (0, 1), (1, 0)])), some (.d (.tup [.int 1, .int 0])), some (.d (.tup [.int 2, .int 0]))]) (S' := [.lst (psD [[(0, 0), (0, 1)], [(0, 0), (0, 1)], [(0, 0), (0, 1)], [(0, 0), (0, 1)]]), .set (psD [[(0, 0), (0, 1)]]), .lst (psD [[(0, 0), (0, 1), (1, 0)], [(0, 0), (0, 1), (0, 2)], [(0, 0), (0, 1), (1, 0)], [(0, 0), (0, 1), (1, 0)], [(0, 0), (0, 1), (0, 2)], [(0, 0), (0, 1), (1, 0)]]), .set (psD [[(0, 0), (0, 1), (1, 0)], [(0, 0), (0, 1), (0, 2)]]), .lst (psD [[(0, 0), (0, 1), (0, 2), (1, 0)], [(0, 0), (0, 1), (0, 2), (0, 3)], [(0, 0), (0, 1), (0, 2), (1, 0)], [(0, 0), (0, 1), (0, 2), (1, 1)], [(0, 0), (0, 1), (0, 2), (1, 1)], [(0, 0), (0, 1), (0, 2), (1, 0)], [(0, 0), (0, 1), (0, 2), (0, 3)], [(0, 0), (0, 1), (0, 2), (1, 0)], [(0, 0), (0, 1), (0, 2), (1, 1)], [(0, 0), (0, 1), (0, 2), (1, 1)], [(0, 0), (0, 1), (1, 1), (1, 2)], [(0, 0), (0, 1), (0, 2), (1, 0)], [(0, 0), (0, 1), (1, 0), (1, 1)], [(0, 0), (0, 1), (1, 1), (1, 2)], [(0, 0), (0, 1), (1, 0), (1, 1)], [(0, 0), (0, 1), (0, 2), (1, 0)]]), .set (psD [[(0, 0), (0, 1), (0, 2), (1, 0)], [(0, 0), (0, 1), (0, 2), (0, 3)], [(0, 0), (0, 1), (0, 2), (1, 1)], [(0, 0), (0, 1), (1, 1), (1, 2)], [(0, 0), (0, 1), (1, 0), (1, 1)]]), .lst (psD [])]) am_new).trans ?_
  refine (sSeq_nx (rho' := [some (.d (.int 5)), some (.d (.lst (psD Q4))), some (.d (.int 3)), some (.r 6), some (.d (pieceD [(0, 0), (0, 1), (1, 1), (1, 2)])), some (.d (.tup [.int 1, .int 2])), some (.d (.tup [.int 2, .int 2]))]) (S' := [.lst (psD [[(0, 0), (0, 1)], [(0, 0), (0, 1)], [(0, 0), (0, 1)], [(0, 0), (0, 1)]]), .set (psD [[(0, 0), (0, 1)]]), .lst (psD [[(0, 0), (0, 1), (1, 0)], [(0, 0), (0, 1), (0, 2)], [(0, 0), (0, 1), (1, 0)], [(0, 0), (0, 1), (1, 0)], [(0, 0), (0, 1), (0, 2)], [(0, 0), (0, 1), (1, 0)]]), .set (psD [[(0, 0), (0, 1), (1, 0)], [(0, 0), (0, 1), (0, 2)]]), .lst (psD [[(0, 0), (0, 1), (0, 2), (1, 0)], [(0, 0), (0, 1), (0, 2), (0, 3)], [(0, 0), (0, 1), (0, 2), (1, 0)], [(0, 0), (0, 1), (0, 2), (1, 1)], [(0, 0), (0, 1), (0, 2), (1, 1)], [(0, 0), (0, 1), (0, 2), (1, 0)], [(0, 0), (0, 1), (0, 2), (0, 3)], [(0, 0), (0, 1), (0, 2), (1, 0)], [(0, 0), (0, 1), (0, 2), (1, 1)], [(0, 0), (0, 1), (0, 2), (1, 1)], [(0, 0), (0, 1), (1, 1), (1, 2)], [(0, 0), (0, 1), (0, 2), (1, 0)], [(0, 0), (0, 1), (1, 0), (1, 1)], [(0, 0), (0, 1), (1, 1), (1, 2)], [(0, 0), (0, 1), (1, 0), (1, 1)], [(0, 0), (0, 1), (0, 2), (1, 0)]]), .set (psD [[(0, 0), (0, 1), (0, 2), (1, 0)], [(0, 0), (0, 1), (0, 2), (0, 3)], [(0, 0), (0, 1), (0, 2), (1, 1)], [(0, 0), (0, 1), (1, 1), (1, 2)], [(0, 0), (0, 1), (1, 0), (1, 1)]]), .lst (psD [[(0, 0), (0, 1), (0, 2), (0, 3), (1, 0)], [(0, 0), (0, 1), (0, 2), (0, 3), (0, 4)], [(0, 0), (0, 1), (0, 2), (0, 3), (1, 0)], [(0, 0), (0, 1), (0, 2), (0, 3), (1, 1)], [(0, 0), (0, 1), (0, 2), (0, 3), (1, 1)], [(0, 0), (0, 1), (0, 2), (0, 3), (1, 1)], [(0, 0), (0, 1), (0, 2), (0, 3), (1, 1)], [(0, 0), (0, 1), (0, 2), (0, 3), (1, 0)], [(0, 0), (0, 1), (0, 2), (0, 3), (0, 4)], [(0, 0), (0, 1), (0, 2), (0, 3), (1, 0)], [(0, 0), (0, 1), (0, 2), (1, 1), (2, 1)], [(0, 0), (0, 1), (0, 2), (0, 3), (1, 1)], [(0, 0), (0, 1), (1, 1), (1, 2), (2, 1)], [(0, 0), (0, 1), (0, 2), (1, 0), (1, 1)], [(0, 0), (0, 1), (1, 1), (2, 1), (2, 2)], [(0, 0), (0, 1), (0, 2), (0, 3), (1, 0)], [(0, 0), (0, 1), (0, 2), (1, 0), (1, 2)], [(0, 0), (0, 1), (0, 2), (1, 2), (1, 3)], [(0, 0), (0, 1), (0, 2), (1, 0), (1, 1)], [(0, 0), (0, 1), (0, 2), (1, 0), (2, 0)], [(0, 0), (0, 1), (1, 1), (1, 2), (2, 1)], [(0, 0), (0, 1), (0, 2), (0, 3), (1, 1)], [(0, 0), (0, 1), (0, 2), (1, 0), (1, 1)], [(0, 1), (1, 0), (1, 1), (1, 2), (2, 1)], [(0, 0), (0, 1), (1, 1), (1, 2), (2, 1)], [(0, 0), (0, 1), (0, 2), (0, 3), (1, 1)], [(0, 0), (0, 1), (0, 2), (1, 0), (1, 1)], [(0, 0), (0, 1), (0, 2), (1, 0), (1, 1)], [(0, 0), (0, 1), (0, 2), (1, 0), (1, 1)], [(0, 0), (0, 1), (0, 2), (1, 1), (2, 1)], [(0, 0), (0, 1), (0, 2), (1, 0), (1, 1)], [(0, 0), (0, 1), (0, 2), (1, 0), (1, 1)], [(0, 0), (0, 1), (0, 2), (1, 0), (1, 1)], [(0, 0), (0, 1), (0, 2), (1, 0), (1, 1)], [(0, 0), (0, 1), (0, 2), (1, 0), (1, 1)], [(0, 0), (0, 1), (0, 2), (1, 0), (1, 1)], [(0, 0), (0, 1), (0, 2), (1, 0), (1, 1)], [(0, 0), (0, 1), (0, 2), (1, 0), (1, 1)], [(0, 0), (0, 1), (1, 1), (1, 2), (2, 2)], [(0, 0), (0, 1), (0, 2), (1, 2), (1, 3)], [(0, 0), (0, 1), (0, 2), (1, 0), (1, 1)], [(0, 0), (0, 1), (1, 1), (1, 2), (2, 1)], [(0, 0), (0, 1), (0, 2), (1, 0), (1, 1)], [(0, 0), (0, 1), (0, 2), (1, 0), (1, 1)], [(0, 0), (0, 1), (1, 1), (1, 2), (2, 1)], [(0, 0), (0, 1), (0, 2), (1, 0), (1, 1)], [(0, 0), (0, 1), (0, 2), (1, 2), (1, 3)], [(0, 0), (0, 1), (1, 1), (1, 2), (2, 2)]])]) ?_).trans am_end
  exact sFor_ok (its := [pieceD [(0, 0), (0, 1), (0, 2), (0, 3)], pieceD [(0, 0), (0, 1), (0, 2), (1, 0)], pieceD [(0, 0), (0, 1), (0, 2), (1, 1)], pieceD [(0, 0), (0, 1), (1, 0), (1, 1)], pieceD [(0, 0), (0, 1), (1, 1), (1, 2)]]) (S1 := [.lst (psD [[(0, 0), (0, 1)], [(0, 0), (0, 1)], [(0, 0), (0, 1)], [(0, 0), (0, 1)]]), .set (psD [[(0, 0), (0, 1)]]), .lst (psD [[(0, 0), (0, 1), (1, 0)], [(0, 0), (0, 1), (0, 2)], [(0, 0), (0, 1), (1, 0)], [(0, 0), (0, 1), (1, 0)], [(0, 0), (0, 1), (0, 2)], [(0, 0), (0, 1), (1, 0)]]), .set (psD [[(0, 0), (0, 1), (1, 0)], [(0, 0), (0, 1), (0, 2)]]), .lst (psD [[(0, 0), (0, 1), (0, 2), (1, 0)], [(0, 0), (0, 1), (0, 2), (0, 3)], [(0, 0), (0, 1), (0, 2), (1, 0)], [(0, 0), (0, 1), (0, 2), (1, 1)], [(0, 0), (0, 1), (0, 2), (1, 1)], [(0, 0), (0, 1), (0, 2), (1, 0)], [(0, 0), (0, 1), (0, 2), (0, 3)], [(0, 0), (0, 1), (0, 2), (1, 0)], [(0, 0), (0, 1), (0, 2), (1, 1)], [(0, 0), (0, 1), (0, 2), (1, 1)], [(0, 0), (0, 1), (1, 1), (1, 2)], [(0, 0), (0, 1), (0, 2), (1, 0)], [(0, 0), (0, 1), (1, 0), (1, 1)], [(0, 0), (0, 1), (1, 1), (1, 2)], [(0, 0), (0, 1), (1, 0), (1, 1)], [(0, 0), (0, 1), (0, 2), (1, 0)]]), .set (psD [[(0, 0), (0, 1), (0, 2), (1, 0)], [(0, 0), (0, 1), (0, 2), (0, 3)], [(0, 0), (0, 1), (0, 2), (1, 1)], [(0, 0), (0, 1), (1, 1), (1, 2)], [(0, 0), (0, 1), (1, 0), (1, 1)]]), .lst (psD [])]) (by kernel_rfl) (go_5 (B := I2m) rfl rfl rfl rfl rfl rfl am_0 am_1 am_2 am_3 am_4)
theorem all_5e : ∃ S, F__law_all_pieces [.d (.int 5)] [] = .ok (.d (.lst (psD Q5))) S := by
  refine ⟨[.lst (psD [[(0, 0), (0, 1)], [(0, 0), (0, 1)], [(0, 0), (0, 1)], [(0, 0), (0, 1)]]), .set (psD [[(0, 0), (0, 1)]]), .lst (psD [[(0, 0), (0, 1), (1, 0)], [(0, 0), (0, 1), (0, 2)], [(0, 0), (0, 1), (1, 0)], [(0, 0), (0, 1), (1, 0)], [(0, 0), (0, 1), (0, 2)], [(0, 0), (0, 1), (1, 0)]]), .set (psD [[(0, 0), (0, 1), (1, 0)], [(0, 0), (0, 1), (0, 2)]]), .lst (psD [[(0, 0), (0, 1), (0, 2), (1, 0)], [(0, 0), (0, 1), (0, 2), (0, 3)], [(0, 0), (0, 1), (0, 2), (1, 0)], [(0, 0), (0, 1), (0, 2), (1, 1)], [(0, 0), (0, 1), (0, 2), (1, 1)], [(0, 0), (0, 1), (0, 2), (1, 0)], [(0, 0), (0, 1), (0, 2), (0, 3)], [(0, 0), (0, 1), (0, 2), (1, 0)], [(0, 0), (0, 1), (0, 2), (1, 1)], [(0, 0), (0, 1), (0, 2), (1, 1)], [(0, 0), (0, 1), (1, 1), (1, 2)], [(0, 0), (0, 1), (0, 2), (1, 0)], [(0, 0), (0, 1), (1, 0), (1, 1)], [(0, 0), (0, 1), (1, 1), (1, 2)], [(0, 0), (0, 1), (1, 0), (1, 1)], [(0, 0), (0, 1), (0, 2), (1, 0)]]), .set (psD [[(0, 0), (0, 1), (0, 2), (1, 0)], [(0, 0), (0, 1), (0, 2), (0, 3)], [(0, 0), (0, 1), (0, 2), (1, 1)], [(0, 0), (0, 1), (1, 1), (1, 2)], [(0, 0), (0, 1), (1, 0), (1, 1)]]), .lst (psD [[(0, 0), (0, 1), (0, 2), (0, 3), (1, 0)], [(0, 0), (0, 1), (0, 2), (0, 3), (0, 4)], [(0, 0), (0, 1), (0, 2), (0, 3), (1, 0)], [(0, 0), (0, 1), (0, 2), (0, 3), (1, 1)], [(0, 0), (0, 1), (0, 2), (0, 3), (1, 1)], [(0, 0), (0, 1), (0, 2), (0, 3), (1, 1)], [(0, 0), (0, 1), (0, 2), (0, 3), (1, 1)], [(0, 0), (0, 1), (0, 2), (0, 3), (1, 0)], [(0, 0), (0, 1), (0, 2), (0, 3), (0, 4)], [(0, 0), (0, 1), (0, 2), (0, 3), (1, 0)], [(0, 0), (0, 1), (0, 2), (1, 1), (2, 1)], [(0, 0), (0, 1), (0, 2), (0, 3), (1, 1)], [(0, 0), (0, 1), (1, 1), (1, 2), (2, 1)], [(0, 0), (0, 1), (0, 2), (1, 0), (1, 1)], [(0, 0), (0, 1), (1, 1), (2, 1), (2, 2)], [(0, 0), (0, 1), (0, 2), (0, 3), (1, 0)], [(0, 0), (0, 1), (0, 2), (1, 0), (1, 2)], [(0, 0), (0, 1), (0, 2), (1, 2), (1, 3)], [(0, 0), (0, 1), (0, 2), (1, 0), (1, 1)], [(0, 0), (0, 1), (0, 2), (1, 0), (2, 0)], [(0, 0), (0, 1), (1, 1), (1, 2), (2, 1)], [(0, 0), (0, 1), (0, 2), (0, 3), (1, 1)], [(0, 0), (0, 1), (0, 2), (1, 0), (1, 1)], [(0, 1), (1, 0), (1, 1), (1, 2), (2, 1)], [(0, 0), (0, 1), (1, 1), (1, 2), (2, 1)], [(0, 0), (0, 1), (0, 2), (0, 3), (1, 1)], [(0, 0), (0, 1), (0, 2), (1, 0), (1, 1)], [(0, 0), (0, 1), (0, 2), (1, 0), (1, 1)], [(0, 0), (0, 1), (0, 2), (1, 0), (1, 1)], [(0, 0), (0, 1), (0, 2), (1, 1), (2, 1)], [(0, 0), (0, 1), (0, 2), (1, 0), (1, 1)], [(0, 0), (0, 1), (0, 2), (1, 0), (1, 1)], [(0, 0), (0, 1), (0, 2), (1, 0), (1, 1)], [(0, 0), (0, 1), (0, 2), (1, 0), (1, 1)], [(0, 0), (0, 1), (0, 2), (1, 0), (1, 1)], [(0, 0), (0, 1), (0, 2), (1, 0), (1, 1)], [(0, 0), (0, 1), (0, 2), (1, 0), (1, 1)], [(0, 0), (0, 1), (0, 2), (1, 0), (1, 1)], [(0, 0), (0, 1), (1, 1), (1, 2), (2, 2)], [(0, 0), (0, 1), (0, 2), (1, 2), (1, 3)], [(0, 0), (0, 1), (0, 2), (1, 0), (1, 1)], [(0, 0), (0, 1), (1, 1), (1, 2), (2, 1)], [(0, 0), (0, 1), (0, 2), (1, 0), (1, 1)], [(0, 0), (0, 1), (0, 2), (1, 0), (1, 1)], [(0, 0), (0, 1), (1, 1), (1, 2), (2, 1)], [(0, 0), (0, 1), (0, 2), (1, 0), (1, 1)], [(0, 0), (0, 1), (0, 2), (1, 2), (1, 3)], [(0, 0), (0, 1), (1, 1), (1, 2), (2, 2)]]), .set (psD [[(0, 0), (0, 1), (0, 2), (0, 3), (1, 0)], [(0, 0), (0, 1), (0, 2), (0, 3), (0, 4)], [(0, 0), (0, 1), (0, 2), (0, 3), (1, 1)], [(0, 0), (0, 1), (0, 2), (1, 1), (2, 1)], [(0, 0), (0, 1), (1, 1), (1, 2), (2, 1)], [(0, 0), (0, 1), (0, 2), (1, 0), (1, 1)], [(0, 0), (0, 1), (1, 1), (2, 1), (2, 2)], [(0, 0), (0, 1), (0, 2), (1, 0), (1, 2)], [(0, 0), (0, 1), (0, 2), (1, 2), (1, 3)], [(0, 0), (0, 1), (0, 2), (1, 0), (2, 0)], [(0, 1), (1, 0), (1, 1), (1, 2), (2, 1)], [(0, 0), (0, 1), (1, 1), (1, 2), (2, 2)]])], ?_⟩
  unfold F__law_all_pieces
  refine runDef_rt rfl (rho := [some (.d (.int 5)), none, none, none, none, none, none]) ?_
  unfold body__law_all_pieces
  refine (sSeq_nx (rho' := [some (.d (.int 5)), some (.d (.lst (psD [[(0, 0)]]))), none, none, none, none, none]) (S' := []) (by kernel_rfl)).trans ?_
  refine (sSeq_nx (rho' := [some (.d (.int 5)), some (.d (.lst (psD [[(0, 0), (0, 1), (0, 2), (0, 3), (0, 4)], [(0, 0), (0, 1), (0, 2), (0, 3), (1, 0)], [(0, 0), (0, 1), (0, 2), (0, 3), (1, 1)], [(0, 0), (0, 1), (0, 2), (1, 0), (1, 1)], [(0, 0), (0, 1), (0, 2), (1, 0), (1, 2)], [(0, 0), (0, 1), (0, 2), (1, 0), (2, 0)], [(0, 0), (0, 1), (0, 2), (1, 1), (2, 1)], [(0, 0), (0, 1), (0, 2), (1, 2), (1, 3)], [(0, 0), (0, 1), (1, 1), (1, 2), (2, 1)], [(0, 0), (0, 1), (1, 1), (1, 2), (2, 2)], [(0, 0), (0, 1), (1, 1), (2, 1), (2, 2)], [(0, 1), (1, 0), (1, 1), (1, 2), (2, 1)]]))), some (.d (.int 3)), some (.r 6), some (.d (pieceD [(0, 0), (0, 1), (1, 1), (1, 2)])), some (.d (.tup [.int 1, .int 2])), some (.d (.tup [.int 2, .int 2]))]) (S' := [.lst (psD [[(0, 0), (0, 1)], [(0, 0), (0, 1)], [(0, 0), (0, 1)], [(0, 0), (0, 1)]]), .set (psD [[(0, 0), (0, 1)]]), .lst (psD [[(0, 0), (0, 1), (1, 0)], [(0, 0), (0, 1), (0, 2)], [(0, 0), (0, 1), (1, 0)], [(0, 0), (0, 1), (1, 0)], [(0, 0), (0, 1), (0, 2)], [(0, 0), (0, 1), (1, 0)]]), .set (psD [[(0, 0), (0, 1), (1, 0)], [(0, 0), (0, 1), (0, 2)]]), .lst (psD [[(0, 0), (0, 1), (0, 2), (1, 0)], [(0, 0), (0, 1), (0, 2), (0, 3)], [(0, 0), (0, 1), (0, 2), (1, 0)], [(0, 0), (0, 1), (0, 2), (1, 1)], [(0, 0), (0, 1), (0, 2), (1, 1)], [(0, 0), (0, 1), (0, 2), (1, 0)], [(0, 0), (0, 1), (0, 2), (0, 3)], [(0, 0), (0, 1), (0, 2), (1, 0)], [(0, 0), (0, 1), (0, 2), (1, 1)], [(0, 0), (0, 1), (0, 2), (1, 1)], [(0, 0), (0, 1), (1, 1), (1, 2)], [(0, 0), (0, 1), (0, 2), (1, 0)], [(0, 0), (0, 1), (1, 0), (1, 1)], [(0, 0), (0, 1), (1, 1), (1, 2)], [(0, 0), (0, 1), (1, 0), (1, 1)], [(0, 0), (0, 1), (0, 2), (1, 0)]]), .set (psD [[(0, 0), (0, 1), (0, 2), (1, 0)], [(0, 0), (0, 1), (0, 2), (0, 3)], [(0, 0), (0, 1), (0, 2), (1, 1)], [(0, 0), (0, 1), (1, 1), (1, 2)], [(0, 0), (0, 1), (1, 0), (1, 1)]]), .lst (psD [[(0, 0), (0, 1), (0, 2), (0, 3), (1, 0)], [(0, 0), (0, 1), (0, 2), (0, 3), (0, 4)], [(0, 0), (0, 1), (0, 2), (0, 3), (1, 0)], [(0, 0), (0, 1), (0, 2), (0, 3), (1, 1)], [(0, 0), (0, 1), (0, 2), (0, 3), (1, 1)], [(0, 0), (0, 1), (0, 2), (0, 3), (1, 1)], [(0, 0), (0, 1), (0, 2), (0, 3), (1, 1)], [(0, 0), (0, 1), (0, 2), (0, 3), (1, 0)], [(0, 0), (0, 1), (0, 2), (0, 3), (0, 4)], [(0, 0), (0, 1), (0, 2), (0, 3), (1, 0)], [(0, 0), (0, 1), (0, 2), (1, 1), (2, 1)], [(0, 0), (0, 1), (0, 2), (0, 3), (1, 1)], [(0, 0), (0, 1), (1, 1), (1, 2), (2, 1)], [(0, 0), (0, 1), (0, 2), (1, 0), (1, 1)], [(0, 0), (0, 1), (1, 1), (2, 1), (2, 2)], [(0, 0), (0, 1), (0, 2), (0, 3), (1, 0)], [(0, 0), (0, 1), (0, 2), (1, 0), (1, 2)], [(0, 0), (0, 1), (0, 2), (1, 2), (1, 3)], [(0, 0), (0, 1), (0, 2), (1, 0), (1, 1)], [(0, 0), (0, 1), (0, 2), (1, 0), (2, 0)], [(0, 0), (0, 1), (1, 1), (1, 2), (2, 1)], [(0, 0), (0, 1), (0, 2), (0, 3), (1, 1)], [(0, 0), (0, 1), (0, 2), (1, 0), (1, 1)], [(0, 1), (1, 0), (1, 1), (1, 2), (2, 1)], [(0, 0), (0, 1), (1, 1), (1, 2), (2, 1)], [(0, 0), (0, 1), (0, 2), (0, 3), (1, 1)], [(0, 0), (0, 1), (0, 2), (1, 0), (1, 1)], [(0, 0), (0, 1), (0, 2), (1, 0), (1, 1)], [(0, 0), (0, 1), (0, 2), (1, 0), (1, 1)], [(0, 0), (0, 1), (0, 2), (1, 1), (2, 1)], [(0, 0), (0, 1), (0, 2), (1, 0), (1, 1)], [(0, 0), (0, 1), (0, 2), (1, 0), (1, 1)], [(0, 0), (0, 1), (0, 2), (1, 0), (1, 1)], [(0, 0), (0, 1), (0, 2), (1, 0), (1, 1)], [(0, 0), (0, 1), (0, 2), (1, 0), (1, 1)], [(0, 0), (0, 1), (0, 2), (1, 0), (1, 1)], [(0, 0), (0, 1), (0, 2), (1, 0), (1, 1)], [(0, 0), (0, 1), (0, 2), (1, 0), (1, 1)], [(0, 0), (0, 1), (1, 1), (1, 2), (2, 2)], [(0, 0), (0, 1), (0, 2), (1, 2), (1, 3)], [(0, 0), (0, 1), (0, 2), (1, 0), (1, 1)], [(0, 0), (0, 1), (1, 1), (1, 2), (2, 1)], [(0, 0), (0, 1), (0, 2), (1, 0), (1, 1)], [(0, 0), (0, 1), (0, 2), (1, 0), (1, 1)], [(0, 0), (0, 1), (1, 1), (1, 2), (2, 1)], [(0, 0), (0, 1), (0, 2), (1, 0), (1, 1)], [(0, 0), (0, 1), (0, 2), (1, 2), (1, 3)], [(0, 0), (0, 1), (1, 1), (1, 2), (2, 2)]]), .set (psD [[(0, 0), (0, 1), (0, 2), (0, 3), (1, 0)], [(0, 0), (0, 1), (0, 2), (0, 3), (0, 4)], [(0, 0), (0, 1), (0, 2), (0, 3), (1, 1)], [(0, 0), (0, 1), (0, 2), (1, 1), (2, 1)], [(0, 0), (0, 1), (1, 1), (1, 2), (2, 1)], [(0, 0), (0, 1), (0, 2), (1, 0), (1, 1)], [(0, 0), (0, 1), (1, 1), (2, 1), (2, 2)], [(0, 0), (0, 1), (0, 2), (1, 0), (1, 2)], [(0, 0), (0, 1), (0, 2), (1, 2), (1, 3)], [(0, 0), (0, 1), (0, 2), (1, 0), (2, 0)], [(0, 1), (1, 0), (1, 1), (1, 2), (2, 1)], [(0, 0), (0, 1), (1, 1), (1, 2), (2, 2)]])]) ?_).trans ?_
  · exact sFor_ok (its := [.int 0, .int 1, .int 2, .int 3]) (S1 := []) (by kernel_rfl) (go_4 (B := T2m) rfl rfl rfl rfl rfl at_0 at_1 at_2 at_3)
  · kernel_rfl
theorem pieces_gen {F : Fn} {x1 x2 x3 x4 x5 : D} {S1 S2 S3 S4 : Stor} {n : W} {w2 : Option W} (e1 : F [.d x1] [] = .ok (.d x2) S1) (e2 : F [.d x2] [] = .ok (.d x3) S2) (e3 : F [.d x3] [] = .ok (.d x4) S3) (e4 : F [.d x4] [] = .ok (.d x5) S4) (it : Wlk) (hc : it.cell = none) (i1 i2 i3 i4 : D) :
    forGo it (tgN 2) (sSet 1 (dFnP F (dCons (dVar 1) dNil))) [i1, i2, i3, i4] [some n, some (.d x1), w2] [] = .nx [some n, some (.d x5), some (.d i4)] [] := by
  have ok : cellOk it [] = true := by unfold cellOk; rw [hc]
  have turn : ∀ {x y : D} {S' : Stor} {w : Option W}, F [.d x] [] = .ok (.d y) S' → sSet 1 (dFnP F (dCons (dVar 1) dNil)) [some n, some (.d x), w] [] = .nx [some n, some (.d y), w] [] := fun {x y S' w} e =>
    (sSet_ok (w := .d y) (S' := []) ((dFnP_ok (ws := [.d x]) (ds := [x]) (S1 := []) rfl rfl e).trans rfl)).trans rfl
  have step : ∀ {x y : D} {S' : Stor} {i : D} {w : Option W} {ds : List D}, F [.d x] [] = .ok (.d y) S' → forGo it (tgN 2) (sSet 1 (dFnP F (dCons (dVar 1) dNil))) (i :: ds) [some n, some (.d x), w] [] = forGo it (tgN 2) (sSet 1 (dFnP F (dCons (dVar 1) dNil))) ds [some n, some (.d y), some (.d i)] [] := fun {x y S' i w ds} e => by
    rw [forGo, if_pos ok]
    show (match sSet 1 (dFnP F (dCons (dVar 1) dNil)) [some n, some (.d x), some (.d i)] [] with | .nx r S' => forGo it (tgN 2) (sSet 1 (dFnP F (dCons (dVar 1) dNil))) ds r S' | .ct r S' => forGo it (tgN 2) (sSet 1 (dFnP F (dCons (dVar 1) dNil))) ds r S' | .bk r S' => .nx r S' | o => o) = _
    rw [turn e]
  rw [step e1, step e2, step e3, step e4, forGo, if_pos ok]
theorem pieces_5 : ∃ S, F_pieces_of [.d (.int 5)] [] = .ok (.d (.tup (psD Q5))) S := by
  obtain ⟨S1, e1⟩ := ok_lst one_1
  obtain ⟨S2, e2⟩ := ok_lst one_2
  obtain ⟨S3, e3⟩ := ok_lst one_3
  obtain ⟨S4, e4⟩ := one_4e
  have loop := pieces_gen (n := .d (.int 5)) (w2 := none) e1 e2 e3 e4 ⟨[.int 0, .int 1, .int 2, .int 3], none⟩ rfl (.int 0) (.int 1) (.int 2) (.int 3)
  refine ⟨[], ?_⟩
  unfold F_pieces_of
  refine runDef_rt rfl (rho := [some (.d (.int 5)), none, none]) ?_
  unfold body_pieces_of
  refine (sSeq_nx (rho' := [some (.d (.int 5)), none, none]) (S' := []) (by kernel_rfl)).trans ?_
  refine (sSeq_nx (rho' := [some (.d (.int 5)), some (.d (.lst (psD Q1))), none]) (S' := []) (by kernel_rfl)).trans ?_
  refine (sSeq_nx (rho' := [some (.d (.int 5)), some (.d (.lst (psD Q5))), some (.d (.int 3))]) (S' := []) ?_).trans ?_
  · exact sFor_ok (its := [.int 0, .int 1, .int 2, .int 3]) (by kernel_rfl) loop
  · kernel_rfl
theorem many_4 (r0 r1 : C) (w0 w2 w3 w4 w5 w6 w7 w8 w9 : Option W) : p25_law [w0, some (.r 1), w2, w3, w4, w5, w6, w7, w8, w9, some (.d (.int (1 + ((4 : Nat) : Int)))), none, none, none, none, none] [r0, r1] = RS.nx [w0, some (.r 1), w2, w3, w4, w5, w6, w7, w8, w9, some (.d (.int (1 + ((4 : Nat) : Int)))), none, none, none, none, none] [r0, r1] := by
  obtain ⟨S1, e1⟩ := pieces_5
  obtain ⟨S2, e2⟩ := all_5e
  have e3 : ∃ S, F__law_alike 8 [.d (.tup (psD Q5)), .d (.tup (psD Q5))] [] = .ok (.d (.bl true)) S := by
    have h := alike_5
    generalize F__law_alike 8 [.d (.tup (psD Q5)), .d (.tup (psD Q5))] [] = r at h
    cases r with
    | bad => cases h
    | exc x S => cases h
    | ok w S =>
      cases w with
      | l => cases h
      | r n => cases h
      | d y =>
        cases y with
        | bl b =>
          cases b with
          | true => exact ⟨S, rfl⟩
          | false => cases h
        | _ => cases h
  obtain ⟨S3, e3⟩ := e3
  rw [show (1 + ((4 : Nat) : Int)) = 5 from rfl]
  unfold p25_law
  exact many_gen (i := 5) rfl e1 e2 (fun S => by kernel_rfl) e3
end DL
namespace DL
open PySem PySem.Spec PyProof.Rows L2 StX
def isTr (r : Res W) : Bool := match r with | .ok (.d (.bl true)) _ => true | _ => false
abbrev qL : Str := "law.<locals>.<lambda>"
def cutN : Nat → List Pt → List Pt
  | _, [] => []
  | 0, _ :: xs => xs
  | k + 1, x :: xs => x :: cutN k xs
def shiftN : List Pt → List Pt
  | [] => []
  | x :: xs => (x.1 + 1, x.2) :: shiftN xs
def lastN : List Pt → Pt
  | [] => (0, 0)
  | [x] => x
  | _ :: x :: xs => lastN (x :: xs)
def revN (l : List Pt) : List Pt := l.foldl (fun a x => x :: a) []
def constV : List D := [.tup [], .non, .int 3, pieceD [(0, 0), (0, 2)], pieceD [(0, 0), (1, 1)], .tup [.tup [.int 0, .bl false]], .tup [.tup [.int 0, .int 0, .int 0]], pieceD [(0, 0), (0, 1), (0, 2), (0, 3), (0, 4), (0, 5)], .str "#"]
def bentN (p : List Pt) (k : Nat) : List D := [pieceD p, pieceD (cutN k p), pieceD (revN p), .lst (cellsD p), pieceD (shiftN p), pieceD (p ++ [((lastN p).1 + 1, (lastN p).2)]), pieceD (p ++ [lastN p])] ++ constV
def bodyL : SD := sSeq p5_law (sSeq p7_law (sSeq p9_law p11_law))
def goodD (v : D) : D := .bl (isTr (F__law_is_piece [.d v] []))
def tst (vs : List D) : Prop := ∀ (r1 : C) (w0 w2 w3 w4 w6 w7 w8 w9 w10 w11 w12 w13 w14 w15 : Option W), vs.map (fun v => bodyL [w0, some (.r 1), w2, w3, w4, some (.d v), w6, w7, w8, w9, w10, w11, w12, w13, w14, w15] [.tab qL, r1]) =
  vs.map fun v => RS.nx [w0, some (.r 1), w2, w3, w4, some (.d v), some (.d (goodD v)), w7, w8, w9, w10, w11, w12, w13, w14, w15] [.tab qL, r1]
def commonV (p : List Pt) : List D := [pieceD p, pieceD (revN p), .lst (cellsD p), pieceD (shiftN p), pieceD (p ++ [((lastN p).1 + 1, (lastN p).2)]), pieceD (p ++ [lastN p])]
def cutsV (p : List Pt) : Nat → List D
  | 0 => []
  | n + 1 => pieceD (cutN n p) :: cutsV p n
def flat1 : List (List Pt) → List D
  | [] => []
  | p :: ps => commonV p ++ flat1 ps
def flat2 : List (List Pt) → List D
  | [] => []
  | p :: ps => cutsV p p.length ++ flat2 ps
def pairs (p : List Pt) : Nat → List (List Pt × Nat)
  | 0 => []
  | n + 1 => (p, n) :: pairs p n
def flat3 : List (List Pt) → List (List Pt × Nat)
  | [] => []
  | p :: ps => pairs p p.length ++ flat3 ps
def highN (p : List Pt) : Int := p.foldl (fun m x => bif decide (m < x.1) then x.1 else m) 0 + 1
def wideN (p : List Pt) : Int := p.foldl (fun m x => bif decide (m < x.2) then x.2 else m) 0 + 1
abbrev rhoL (w0 : Option W) (p : List Pt) (k : Nat) (w4 : Option W) : Rho := [w0, some (.r 1), some (.d (pieceD p)), some (.d (.int k)), w4, none, none, none, none, none, none, none, none, none, none, none]
def restL : SD := sSeq p14_law (sSeq p17_law (sSeq p19_law (sSeq p20_law p22_law)))
theorem const_all : tst constV := by unfold tst; intros; kernel_rfl
theorem com_0 : tst (commonV pc0) := by unfold tst; intros; kernel_rfl
theorem cut_0 : tst (cutsV pc0 pc0.length) := by unfold tst; intros; kernel_rfl
theorem bent_0 (r0 r1 : C) (w0 : Option W) : (pairs pc0 pc0.length).map (fun pk => (sSeq p3_law p4_law) (rhoL w0 pk.1 pk.2 none) [r0, r1]) = (pairs pc0 pc0.length).map fun pk => RS.nx (rhoL w0 pk.1 pk.2 (some (.d (.lst (bentN pk.1 pk.2))))) [r0, r1] := by kernel_rfl
theorem rest_0 (r0 r1 : C) (w0 w3 w4 w5 w6 : Option W) : restL [w0, some (.r 1), some (.d (pieceD pc0)), w3, w4, w5, w6, none, none, none, none, none, none, none, none, none] [r0, r1] = RS.nx [w0, some (.r 1), some (.d (pieceD pc0)), w3, w4, w5, w6, some (.d (.bl false)), some (.d (.int (highN pc0))), some (.d (.int (wideN pc0))), none, none, none, none, none, none] [r0, r1] := by kernel_rfl
theorem com_1 : tst (commonV pc1) := by unfold tst; intros; kernel_rfl
theorem cut_1 : tst (cutsV pc1 pc1.length) := by unfold tst; intros; kernel_rfl
theorem bent_1 (r0 r1 : C) (w0 : Option W) : (pairs pc1 pc1.length).map (fun pk => (sSeq p3_law p4_law) (rhoL w0 pk.1 pk.2 none) [r0, r1]) = (pairs pc1 pc1.length).map fun pk => RS.nx (rhoL w0 pk.1 pk.2 (some (.d (.lst (bentN pk.1 pk.2))))) [r0, r1] := by kernel_rfl
theorem rest_1 (r0 r1 : C) (w0 w3 w4 w5 w6 : Option W) : restL [w0, some (.r 1), some (.d (pieceD pc1)), w3, w4, w5, w6, none, none, none, none, none, none, none, none, none] [r0, r1] = RS.nx [w0, some (.r 1), some (.d (pieceD pc1)), w3, w4, w5, w6, some (.d (.bl false)), some (.d (.int (highN pc1))), some (.d (.int (wideN pc1))), none, none, none, none, none, none] [r0, r1] := by kernel_rfl
theorem com_2 : tst (commonV pc2) := by unfold tst; intros; kernel_rfl
theorem cut_2 : tst (cutsV pc2 pc2.length) := by unfold tst; intros; kernel_rfl
theorem bent_2 (r0 r1 : C) (w0 : Option W) : (pairs pc2 pc2.length).map (fun pk => (sSeq p3_law p4_law) (rhoL w0 pk.1 pk.2 none) [r0, r1]) = (pairs pc2 pc2.length).map fun pk => RS.nx (rhoL w0 pk.1 pk.2 (some (.d (.lst (bentN pk.1 pk.2))))) [r0, r1] := by kernel_rfl
theorem rest_2 (r0 r1 : C) (w0 w3 w4 w5 w6 : Option W) : restL [w0, some (.r 1), some (.d (pieceD pc2)), w3, w4, w5, w6, none, none, none, none, none, none, none, none, none] [r0, r1] = RS.nx [w0, some (.r 1), some (.d (pieceD pc2)), w3, w4, w5, w6, some (.d (.bl false)), some (.d (.int (highN pc2))), some (.d (.int (wideN pc2))), none, none, none, none, none, none] [r0, r1] := by kernel_rfl
theorem com_3 : tst (commonV pc3) := by unfold tst; intros; kernel_rfl
theorem cut_3 : tst (cutsV pc3 pc3.length) := by unfold tst; intros; kernel_rfl
theorem bent_3 (r0 r1 : C) (w0 : Option W) : (pairs pc3 pc3.length).map (fun pk => (sSeq p3_law p4_law) (rhoL w0 pk.1 pk.2 none) [r0, r1]) = (pairs pc3 pc3.length).map fun pk => RS.nx (rhoL w0 pk.1 pk.2 (some (.d (.lst (bentN pk.1 pk.2))))) [r0, r1] := by kernel_rfl
theorem rest_3 (r0 r1 : C) (w0 w3 w4 w5 w6 : Option W) : restL [w0, some (.r 1), some (.d (pieceD pc3)), w3, w4, w5, w6, none, none, none, none, none, none, none, none, none] [r0, r1] = RS.nx [w0, some (.r 1), some (.d (pieceD pc3)), w3, w4, w5, w6, some (.d (.bl false)), some (.d (.int (highN pc3))), some (.d (.int (wideN pc3))), none, none, none, none, none, none] [r0, r1] := by kernel_rfl
theorem com_4 : tst (commonV pc4) := by unfold tst; intros; kernel_rfl
theorem cut_4 : tst (cutsV pc4 pc4.length) := by unfold tst; intros; kernel_rfl
theorem bent_4 (r0 r1 : C) (w0 : Option W) : (pairs pc4 pc4.length).map (fun pk => (sSeq p3_law p4_law) (rhoL w0 pk.1 pk.2 none) [r0, r1]) = (pairs pc4 pc4.length).map fun pk => RS.nx (rhoL w0 pk.1 pk.2 (some (.d (.lst (bentN pk.1 pk.2))))) [r0, r1] := by kernel_rfl
theorem rest_4 (r0 r1 : C) (w0 w3 w4 w5 w6 : Option W) : restL [w0, some (.r 1), some (.d (pieceD pc4)), w3, w4, w5, w6, none, none, none, none, none, none, none, none, none] [r0, r1] = RS.nx [w0, some (.r 1), some (.d (pieceD pc4)), w3, w4, w5, w6, some (.d (.bl false)), some (.d (.int (highN pc4))), some (.d (.int (wideN pc4))), none, none, none, none, none, none] [r0, r1] := by kernel_rfl
theorem com_5 : tst (commonV pc5) := by unfold tst; intros; kernel_rfl
theorem cut_5 : tst (cutsV pc5 pc5.length) := by unfold tst; intros; kernel_rfl
theorem bent_5 (r0 r1 : C) (w0 : Option W) : (pairs pc5 pc5.length).map (fun pk => (sSeq p3_law p4_law) (rhoL w0 pk.1 pk.2 none) [r0, r1]) = (pairs pc5 pc5.length).map fun pk => RS.nx (rhoL w0 pk.1 pk.2 (some (.d (.lst (bentN pk.1 pk.2))))) [r0, r1] := by kernel_rfl
theorem rest_5 (r0 r1 : C) (w0 w3 w4 w5 w6 : Option W) : restL [w0, some (.r 1), some (.d (pieceD pc5)), w3, w4, w5, w6, none, none, none, none, none, none, none, none, none] [r0, r1] = RS.nx [w0, some (.r 1), some (.d (pieceD pc5)), w3, w4, w5, w6, some (.d (.bl false)), some (.d (.int (highN pc5))), some (.d (.int (wideN pc5))), none, none, none, none, none, none] [r0, r1] := by kernel_rfl
theorem com_6 : tst (commonV pc6) := by unfold tst; intros; kernel_rfl
theorem cut_6 : tst (cutsV pc6 pc6.length) := by unfold tst; intros; kernel_rfl
theorem bent_6 (r0 r1 : C) (w0 : Option W) : (pairs pc6 pc6.length).map (fun pk => (sSeq p3_law p4_law) (rhoL w0 pk.1 pk.2 none) [r0, r1]) = (pairs pc6 pc6.length).map fun pk => RS.nx (rhoL w0 pk.1 pk.2 (some (.d (.lst (bentN pk.1 pk.2))))) [r0, r1] := by kernel_rfl
theorem rest_6 (r0 r1 : C) (w0 w3 w4 w5 w6 : Option W) : restL [w0, some (.r 1), some (.d (pieceD pc6)), w3, w4, w5, w6, none, none, none, none, none, none, none, none, none] [r0, r1] = RS.nx [w0, some (.r 1), some (.d (pieceD pc6)), w3, w4, w5, w6, some (.d (.bl false)), some (.d (.int (highN pc6))), some (.d (.int (wideN pc6))), none, none, none, none, none, none] [r0, r1] := by kernel_rfl
theorem com_7 : tst (commonV pc7) := by unfold tst; intros; kernel_rfl
theorem cut_7 : tst (cutsV pc7 pc7.length) := by unfold tst; intros; kernel_rfl
theorem bent_7 (r0 r1 : C) (w0 : Option W) : (pairs pc7 pc7.length).map (fun pk => (sSeq p3_law p4_law) (rhoL w0 pk.1 pk.2 none) [r0, r1]) = (pairs pc7 pc7.length).map fun pk => RS.nx (rhoL w0 pk.1 pk.2 (some (.d (.lst (bentN pk.1 pk.2))))) [r0, r1] := by kernel_rfl
theorem rest_7 (r0 r1 : C) (w0 w3 w4 w5 w6 : Option W) : restL [w0, some (.r 1), some (.d (pieceD pc7)), w3, w4, w5, w6, none, none, none, none, none, none, none, none, none] [r0, r1] = RS.nx [w0, some (.r 1), some (.d (pieceD pc7)), w3, w4, w5, w6, some (.d (.bl false)), some (.d (.int (highN pc7))), some (.d (.int (wideN pc7))), none, none, none, none, none, none] [r0, r1] := by kernel_rfl
theorem com_8 : tst (commonV pc8) := by unfold tst; intros; kernel_rfl
theorem cut_8 : tst (cutsV pc8 pc8.length) := by unfold tst; intros; kernel_rfl
theorem bent_8 (r0 r1 : C) (w0 : Option W) : (pairs pc8 pc8.length).map (fun pk => (sSeq p3_law p4_law) (rhoL w0 pk.1 pk.2 none) [r0, r1]) = (pairs pc8 pc8.length).map fun pk => RS.nx (rhoL w0 pk.1 pk.2 (some (.d (.lst (bentN pk.1 pk.2))))) [r0, r1] := by kernel_rfl
theorem rest_8 (r0 r1 : C) (w0 w3 w4 w5 w6 : Option W) : restL [w0, some (.r 1), some (.d (pieceD pc8)), w3, w4, w5, w6, none, none, none, none, none, none, none, none, none] [r0, r1] = RS.nx [w0, some (.r 1), some (.d (pieceD pc8)), w3, w4, w5, w6, some (.d (.bl false)), some (.d (.int (highN pc8))), some (.d (.int (wideN pc8))), none, none, none, none, none, none] [r0, r1] := by kernel_rfl
theorem com_9 : tst (commonV pc9) := by unfold tst; intros; kernel_rfl
theorem cut_9 : tst (cutsV pc9 pc9.length) := by unfold tst; intros; kernel_rfl
theorem bent_9 (r0 r1 : C) (w0 : Option W) : (pairs pc9 pc9.length).map (fun pk => (sSeq p3_law p4_law) (rhoL w0 pk.1 pk.2 none) [r0, r1]) = (pairs pc9 pc9.length).map fun pk => RS.nx (rhoL w0 pk.1 pk.2 (some (.d (.lst (bentN pk.1 pk.2))))) [r0, r1] := by kernel_rfl
theorem rest_9 (r0 r1 : C) (w0 w3 w4 w5 w6 : Option W) : restL [w0, some (.r 1), some (.d (pieceD pc9)), w3, w4, w5, w6, none, none, none, none, none, none, none, none, none] [r0, r1] = RS.nx [w0, some (.r 1), some (.d (pieceD pc9)), w3, w4, w5, w6, some (.d (.bl false)), some (.d (.int (highN pc9))), some (.d (.int (wideN pc9))), none, none, none, none, none, none] [r0, r1] := by kernel_rfl
theorem com_10 : tst (commonV pc10) := by unfold tst; intros; kernel_rfl
theorem cut_10 : tst (cutsV pc10 pc10.length) := by unfold tst; intros; kernel_rfl
theorem bent_10 (r0 r1 : C) (w0 : Option W) : (pairs pc10 pc10.length).map (fun pk => (sSeq p3_law p4_law) (rhoL w0 pk.1 pk.2 none) [r0, r1]) = (pairs pc10 pc10.length).map fun pk => RS.nx (rhoL w0 pk.1 pk.2 (some (.d (.lst (bentN pk.1 pk.2))))) [r0, r1] := by kernel_rfl
theorem rest_10 (r0 r1 : C) (w0 w3 w4 w5 w6 : Option W) : restL [w0, some (.r 1), some (.d (pieceD pc10)), w3, w4, w5, w6, none, none, none, none, none, none, none, none, none] [r0, r1] = RS.nx [w0, some (.r 1), some (.d (pieceD pc10)), w3, w4, w5, w6, some (.d (.bl false)), some (.d (.int (highN pc10))), some (.d (.int (wideN pc10))), none, none, none, none, none, none] [r0, r1] := by kernel_rfl
theorem com_11 : tst (commonV pc11) := by unfold tst; intros; kernel_rfl
theorem cut_11 : tst (cutsV pc11 pc11.length) := by unfold tst; intros; kernel_rfl
theorem bent_11 (r0 r1 : C) (w0 : Option W) : (pairs pc11 pc11.length).map (fun pk => (sSeq p3_law p4_law) (rhoL w0 pk.1 pk.2 none) [r0, r1]) = (pairs pc11 pc11.length).map fun pk => RS.nx (rhoL w0 pk.1 pk.2 (some (.d (.lst (bentN pk.1 pk.2))))) [r0, r1] := by kernel_rfl
theorem rest_11 (r0 r1 : C) (w0 w3 w4 w5 w6 : Option W) : restL [w0, some (.r 1), some (.d (pieceD pc11)), w3, w4, w5, w6, none, none, none, none, none, none, none, none, none] [r0, r1] = RS.nx [w0, some (.r 1), some (.d (pieceD pc11)), w3, w4, w5, w6, some (.d (.bl false)), some (.d (.int (highN pc11))), some (.d (.int (wideN pc11))), none, none, none, none, none, none] [r0, r1] := by kernel_rfl
theorem com_12 : tst (commonV pc12) := by unfold tst; intros; kernel_rfl
theorem cut_12 : tst (cutsV pc12 pc12.length) := by unfold tst; intros; kernel_rfl
theorem bent_12 (r0 r1 : C) (w0 : Option W) : (pairs pc12 pc12.length).map (fun pk => (sSeq p3_law p4_law) (rhoL w0 pk.1 pk.2 none) [r0, r1]) = (pairs pc12 pc12.length).map fun pk => RS.nx (rhoL w0 pk.1 pk.2 (some (.d (.lst (bentN pk.1 pk.2))))) [r0, r1] := by kernel_rfl
theorem rest_12 (r0 r1 : C) (w0 w3 w4 w5 w6 : Option W) : restL [w0, some (.r 1), some (.d (pieceD pc12)), w3, w4, w5, w6, none, none, none, none, none, none, none, none, none] [r0, r1] = RS.nx [w0, some (.r 1), some (.d (pieceD pc12)), w3, w4, w5, w6, some (.d (.bl false)), some (.d (.int (highN pc12))), some (.d (.int (wideN pc12))), none, none, none, none, none, none] [r0, r1] := by kernel_rfl
theorem com_13 : tst (commonV pc13) := by unfold tst; intros; kernel_rfl
theorem cut_13 : tst (cutsV pc13 pc13.length) := by unfold tst; intros; kernel_rfl
theorem bent_13 (r0 r1 : C) (w0 : Option W) : (pairs pc13 pc13.length).map (fun pk => (sSeq p3_law p4_law) (rhoL w0 pk.1 pk.2 none) [r0, r1]) = (pairs pc13 pc13.length).map fun pk => RS.nx (rhoL w0 pk.1 pk.2 (some (.d (.lst (bentN pk.1 pk.2))))) [r0, r1] := by kernel_rfl
theorem rest_13 (r0 r1 : C) (w0 w3 w4 w5 w6 : Option W) : restL [w0, some (.r 1), some (.d (pieceD pc13)), w3, w4, w5, w6, none, none, none, none, none, none, none, none, none] [r0, r1] = RS.nx [w0, some (.r 1), some (.d (pieceD pc13)), w3, w4, w5, w6, some (.d (.bl false)), some (.d (.int (highN pc13))), some (.d (.int (wideN pc13))), none, none, none, none, none, none] [r0, r1] := by kernel_rfl
theorem com_14 : tst (commonV pc14) := by unfold tst; intros; kernel_rfl
theorem cut_14 : tst (cutsV pc14 pc14.length) := by unfold tst; intros; kernel_rfl
theorem bent_14 (r0 r1 : C) (w0 : Option W) : (pairs pc14 pc14.length).map (fun pk => (sSeq p3_law p4_law) (rhoL w0 pk.1 pk.2 none) [r0, r1]) = (pairs pc14 pc14.length).map fun pk => RS.nx (rhoL w0 pk.1 pk.2 (some (.d (.lst (bentN pk.1 pk.2))))) [r0, r1] := by kernel_rfl
theorem rest_14 (r0 r1 : C) (w0 w3 w4 w5 w6 : Option W) : restL [w0, some (.r 1), some (.d (pieceD pc14)), w3, w4, w5, w6, none, none, none, none, none, none, none, none, none] [r0, r1] = RS.nx [w0, some (.r 1), some (.d (pieceD pc14)), w3, w4, w5, w6, some (.d (.bl false)), some (.d (.int (highN pc14))), some (.d (.int (wideN pc14))), none, none, none, none, none, none] [r0, r1] := by kernel_rfl
theorem com_15 : tst (commonV pc15) := by unfold tst; intros; kernel_rfl
theorem cut_15 : tst (cutsV pc15 pc15.length) := by unfold tst; intros; kernel_rfl
theorem bent_15 (r0 r1 : C) (w0 : Option W) : (pairs pc15 pc15.length).map (fun pk => (sSeq p3_law p4_law) (rhoL w0 pk.1 pk.2 none) [r0, r1]) = (pairs pc15 pc15.length).map fun pk => RS.nx (rhoL w0 pk.1 pk.2 (some (.d (.lst (bentN pk.1 pk.2))))) [r0, r1] := by kernel_rfl
theorem rest_15 (r0 r1 : C) (w0 w3 w4 w5 w6 : Option W) : restL [w0, some (.r 1), some (.d (pieceD pc15)), w3, w4, w5, w6, none, none, none, none, none, none, none, none, none] [r0, r1] = RS.nx [w0, some (.r 1), some (.d (pieceD pc15)), w3, w4, w5, w6, some (.d (.bl false)), some (.d (.int (highN pc15))), some (.d (.int (wideN pc15))), none, none, none, none, none, none] [r0, r1] := by kernel_rfl
theorem com_16 : tst (commonV pc16) := by unfold tst; intros; kernel_rfl
theorem cut_16 : tst (cutsV pc16 pc16.length) := by unfold tst; intros; kernel_rfl
theorem bent_16 (r0 r1 : C) (w0 : Option W) : (pairs pc16 pc16.length).map (fun pk => (sSeq p3_law p4_law) (rhoL w0 pk.1 pk.2 none) [r0, r1]) = (pairs pc16 pc16.length).map fun pk => RS.nx (rhoL w0 pk.1 pk.2 (some (.d (.lst (bentN pk.1 pk.2))))) [r0, r1] := by kernel_rfl
theorem rest_16 (r0 r1 : C) (w0 w3 w4 w5 w6 : Option W) : restL [w0, some (.r 1), some (.d (pieceD pc16)), w3, w4, w5, w6, none, none, none, none, none, none, none, none, none] [r0, r1] = RS.nx [w0, some (.r 1), some (.d (pieceD pc16)), w3, w4, w5, w6, some (.d (.bl false)), some (.d (.int (highN pc16))), some (.d (.int (wideN pc16))), none, none, none, none, none, none] [r0, r1] := by kernel_rfl
theorem com_17 : tst (commonV pc17) := by unfold tst; intros; kernel_rfl
theorem cut_17 : tst (cutsV pc17 pc17.length) := by unfold tst; intros; kernel_rfl
theorem bent_17 (r0 r1 : C) (w0 : Option W) : (pairs pc17 pc17.length).map (fun pk => (sSeq p3_law p4_law) (rhoL w0 pk.1 pk.2 none) [r0, r1]) = (pairs pc17 pc17.length).map fun pk => RS.nx (rhoL w0 pk.1 pk.2 (some (.d (.lst (bentN pk.1 pk.2))))) [r0, r1] := by kernel_rfl
theorem rest_17 (r0 r1 : C) (w0 w3 w4 w5 w6 : Option W) : restL [w0, some (.r 1), some (.d (pieceD pc17)), w3, w4, w5, w6, none, none, none, none, none, none, none, none, none] [r0, r1] = RS.nx [w0, some (.r 1), some (.d (pieceD pc17)), w3, w4, w5, w6, some (.d (.bl false)), some (.d (.int (highN pc17))), some (.d (.int (wideN pc17))), none, none, none, none, none, none] [r0, r1] := by kernel_rfl
theorem com_18 : tst (commonV pc18) := by unfold tst; intros; kernel_rfl
theorem cut_18 : tst (cutsV pc18 pc18.length) := by unfold tst; intros; kernel_rfl
theorem bent_18 (r0 r1 : C) (w0 : Option W) : (pairs pc18 pc18.length).map (fun pk => (sSeq p3_law p4_law) (rhoL w0 pk.1 pk.2 none) [r0, r1]) = (pairs pc18 pc18.length).map fun pk => RS.nx (rhoL w0 pk.1 pk.2 (some (.d (.lst (bentN pk.1 pk.2))))) [r0, r1] := by kernel_rfl
theorem rest_18 (r0 r1 : C) (w0 w3 w4 w5 w6 : Option W) : restL [w0, some (.r 1), some (.d (pieceD pc18)), w3, w4, w5, w6, none, none, none, none, none, none, none, none, none] [r0, r1] = RS.nx [w0, some (.r 1), some (.d (pieceD pc18)), w3, w4, w5, w6, some (.d (.bl false)), some (.d (.int (highN pc18))), some (.d (.int (wideN pc18))), none, none, none, none, none, none] [r0, r1] := by kernel_rfl
theorem com_19 : tst (commonV pc19) := by unfold tst; intros; kernel_rfl
theorem cut_19 : tst (cutsV pc19 pc19.length) := by unfold tst; intros; kernel_rfl
theorem bent_19 (r0 r1 : C) (w0 : Option W) : (pairs pc19 pc19.length).map (fun pk => (sSeq p3_law p4_law) (rhoL w0 pk.1 pk.2 none) [r0, r1]) = (pairs pc19 pc19.length).map fun pk => RS.nx (rhoL w0 pk.1 pk.2 (some (.d (.lst (bentN pk.1 pk.2))))) [r0, r1] := by kernel_rfl
theorem rest_19 (r0 r1 : C) (w0 w3 w4 w5 w6 : Option W) : restL [w0, some (.r 1), some (.d (pieceD pc19)), w3, w4, w5, w6, none, none, none, none, none, none, none, none, none] [r0, r1] = RS.nx [w0, some (.r 1), some (.d (pieceD pc19)), w3, w4, w5, w6, some (.d (.bl false)), some (.d (.int (highN pc19))), some (.d (.int (wideN pc19))), none, none, none, none, none, none] [r0, r1] := by kernel_rfl
theorem com_20 : tst (commonV pc20) := by unfold tst; intros; kernel_rfl
theorem cut_20 : tst (cutsV pc20 pc20.length) := by unfold tst; intros; kernel_rfl
theorem bent_20 (r0 r1 : C) (w0 : Option W) : (pairs pc20 pc20.length).map (fun pk => (sSeq p3_law p4_law) (rhoL w0 pk.1 pk.2 none) [r0, r1]) = (pairs pc20 pc20.length).map fun pk => RS.nx (rhoL w0 pk.1 pk.2 (some (.d (.lst (bentN pk.1 pk.2))))) [r0, r1] := by kernel_rfl
theorem rest_20 (r0 r1 : C) (w0 w3 w4 w5 w6 : Option W) : restL [w0, some (.r 1), some (.d (pieceD pc20)), w3, w4, w5, w6, none, none, none, none, none, none, none, none, none] [r0, r1] = RS.nx [w0, some (.r 1), some (.d (pieceD pc20)), w3, w4, w5, w6, some (.d (.bl false)), some (.d (.int (highN pc20))), some (.d (.int (wideN pc20))), none, none, none, none, none, none] [r0, r1] := by kernel_rfl
theorem com_21 : tst (commonV pc21) := by unfold tst; intros; kernel_rfl
theorem cut_21 : tst (cutsV pc21 pc21.length) := by unfold tst; intros; kernel_rfl
theorem bent_21 (r0 r1 : C) (w0 : Option W) : (pairs pc21 pc21.length).map (fun pk => (sSeq p3_law p4_law) (rhoL w0 pk.1 pk.2 none) [r0, r1]) = (pairs pc21 pc21.length).map fun pk => RS.nx (rhoL w0 pk.1 pk.2 (some (.d (.lst (bentN pk.1 pk.2))))) [r0, r1] := by kernel_rfl
theorem rest_21 (r0 r1 : C) (w0 w3 w4 w5 w6 : Option W) : restL [w0, some (.r 1), some (.d (pieceD pc21)), w3, w4, w5, w6, none, none, none, none, none, none, none, none, none] [r0, r1] = RS.nx [w0, some (.r 1), some (.d (pieceD pc21)), w3, w4, w5, w6, some (.d (.bl false)), some (.d (.int (highN pc21))), some (.d (.int (wideN pc21))), none, none, none, none, none, none] [r0, r1] := by kernel_rfl
theorem com_22 : tst (commonV pc22) := by unfold tst; intros; kernel_rfl
theorem cut_22 : tst (cutsV pc22 pc22.length) := by unfold tst; intros; kernel_rfl
theorem bent_22 (r0 r1 : C) (w0 : Option W) : (pairs pc22 pc22.length).map (fun pk => (sSeq p3_law p4_law) (rhoL w0 pk.1 pk.2 none) [r0, r1]) = (pairs pc22 pc22.length).map fun pk => RS.nx (rhoL w0 pk.1 pk.2 (some (.d (.lst (bentN pk.1 pk.2))))) [r0, r1] := by kernel_rfl
theorem rest_22 (r0 r1 : C) (w0 w3 w4 w5 w6 : Option W) : restL [w0, some (.r 1), some (.d (pieceD pc22)), w3, w4, w5, w6, none, none, none, none, none, none, none, none, none] [r0, r1] = RS.nx [w0, some (.r 1), some (.d (pieceD pc22)), w3, w4, w5, w6, some (.d (.bl false)), some (.d (.int (highN pc22))), some (.d (.int (wideN pc22))), none, none, none, none, none, none] [r0, r1] := by kernel_rfl
theorem com_23 : tst (commonV pc23) := by unfold tst; intros; kernel_rfl
theorem cut_23 : tst (cutsV pc23 pc23.length) := by unfold tst; intros; kernel_rfl
theorem bent_23 (r0 r1 : C) (w0 : Option W) : (pairs pc23 pc23.length).map (fun pk => (sSeq p3_law p4_law) (rhoL w0 pk.1 pk.2 none) [r0, r1]) = (pairs pc23 pc23.length).map fun pk => RS.nx (rhoL w0 pk.1 pk.2 (some (.d (.lst (bentN pk.1 pk.2))))) [r0, r1] := by kernel_rfl
theorem rest_23 (r0 r1 : C) (w0 w3 w4 w5 w6 : Option W) : restL [w0, some (.r 1), some (.d (pieceD pc23)), w3, w4, w5, w6, none, none, none, none, none, none, none, none, none] [r0, r1] = RS.nx [w0, some (.r 1), some (.d (pieceD pc23)), w3, w4, w5, w6, some (.d (.bl false)), some (.d (.int (highN pc23))), some (.d (.int (wideN pc23))), none, none, none, none, none, none] [r0, r1] := by kernel_rfl
theorem com_24 : tst (commonV pc24) := by unfold tst; intros; kernel_rfl
theorem cut_24 : tst (cutsV pc24 pc24.length) := by unfold tst; intros; kernel_rfl
theorem bent_24 (r0 r1 : C) (w0 : Option W) : (pairs pc24 pc24.length).map (fun pk => (sSeq p3_law p4_law) (rhoL w0 pk.1 pk.2 none) [r0, r1]) = (pairs pc24 pc24.length).map fun pk => RS.nx (rhoL w0 pk.1 pk.2 (some (.d (.lst (bentN pk.1 pk.2))))) [r0, r1] := by kernel_rfl
theorem rest_24 (r0 r1 : C) (w0 w3 w4 w5 w6 : Option W) : restL [w0, some (.r 1), some (.d (pieceD pc24)), w3, w4, w5, w6, none, none, none, none, none, none, none, none, none] [r0, r1] = RS.nx [w0, some (.r 1), some (.d (pieceD pc24)), w3, w4, w5, w6, some (.d (.bl false)), some (.d (.int (highN pc24))), some (.d (.int (wideN pc24))), none, none, none, none, none, none] [r0, r1] := by kernel_rfl
theorem com_25 : tst (commonV pc25) := by unfold tst; intros; kernel_rfl
theorem cut_25 : tst (cutsV pc25 pc25.length) := by unfold tst; intros; kernel_rfl
theorem bent_25 (r0 r1 : C) (w0 : Option W) : (pairs pc25 pc25.length).map (fun pk => (sSeq p3_law p4_law) (rhoL w0 pk.1 pk.2 none) [r0, r1]) = (pairs pc25 pc25.length).map fun pk => RS.nx (rhoL w0 pk.1 pk.2 (some (.d (.lst (bentN pk.1 pk.2))))) [r0, r1] := by kernel_rfl
theorem rest_25 (r0 r1 : C) (w0 w3 w4 w5 w6 : Option W) : restL [w0, some (.r 1), some (.d (pieceD pc25)), w3, w4, w5, w6, none, none, none, none, none, none, none, none, none] [r0, r1] = RS.nx [w0, some (.r 1), some (.d (pieceD pc25)), w3, w4, w5, w6, some (.d (.bl false)), some (.d (.int (highN pc25))), some (.d (.int (wideN pc25))), none, none, none, none, none, none] [r0, r1] := by kernel_rfl
theorem com_26 : tst (commonV pc26) := by unfold tst; intros; kernel_rfl
theorem cut_26 : tst (cutsV pc26 pc26.length) := by unfold tst; intros; kernel_rfl
theorem bent_26 (r0 r1 : C) (w0 : Option W) : (pairs pc26 pc26.length).map (fun pk => (sSeq p3_law p4_law) (rhoL w0 pk.1 pk.2 none) [r0, r1]) = (pairs pc26 pc26.length).map fun pk => RS.nx (rhoL w0 pk.1 pk.2 (some (.d (.lst (bentN pk.1 pk.2))))) [r0, r1] := by kernel_rfl
theorem rest_26 (r0 r1 : C) (w0 w3 w4 w5 w6 : Option W) : restL [w0, some (.r 1), some (.d (pieceD pc26)), w3, w4, w5, w6, none, none, none, none, none, none, none, none, none] [r0, r1] = RS.nx [w0, some (.r 1), some (.d (pieceD pc26)), w3, w4, w5, w6, some (.d (.bl false)), some (.d (.int (highN pc26))), some (.d (.int (wideN pc26))), none, none, none, none, none, none] [r0, r1] := by kernel_rfl
theorem com_27 : tst (commonV pc27) := by unfold tst; intros; kernel_rfl
theorem cut_27 : tst (cutsV pc27 pc27.length) := by unfold tst; intros; kernel_rfl
theorem bent_27 (r0 r1 : C) (w0 : Option W) : (pairs pc27 pc27.length).map (fun pk => (sSeq p3_law p4_law) (rhoL w0 pk.1 pk.2 none) [r0, r1]) = (pairs pc27 pc27.length).map fun pk => RS.nx (rhoL w0 pk.1 pk.2 (some (.d (.lst (bentN pk.1 pk.2))))) [r0, r1] := by kernel_rfl
theorem rest_27 (r0 r1 : C) (w0 w3 w4 w5 w6 : Option W) : restL [w0, some (.r 1), some (.d (pieceD pc27)), w3, w4, w5, w6, none, none, none, none, none, none, none, none, none] [r0, r1] = RS.nx [w0, some (.r 1), some (.d (pieceD pc27)), w3, w4, w5, w6, some (.d (.bl false)), some (.d (.int (highN pc27))), some (.d (.int (wideN pc27))), none, none, none, none, none, none] [r0, r1] := by kernel_rfl
theorem com_28 : tst (commonV pc28) := by unfold tst; intros; kernel_rfl
theorem cut_28 : tst (cutsV pc28 pc28.length) := by unfold tst; intros; kernel_rfl
theorem bent_28 (r0 r1 : C) (w0 : Option W) : (pairs pc28 pc28.length).map (fun pk => (sSeq p3_law p4_law) (rhoL w0 pk.1 pk.2 none) [r0, r1]) = (pairs pc28 pc28.length).map fun pk => RS.nx (rhoL w0 pk.1 pk.2 (some (.d (.lst (bentN pk.1 pk.2))))) [r0, r1] := by kernel_rfl
theorem rest_28 (r0 r1 : C) (w0 w3 w4 w5 w6 : Option W) : restL [w0, some (.r 1), some (.d (pieceD pc28)), w3, w4, w5, w6, none, none, none, none, none, none, none, none, none] [r0, r1] = RS.nx [w0, some (.r 1), some (.d (pieceD pc28)), w3, w4, w5, w6, some (.d (.bl false)), some (.d (.int (highN pc28))), some (.d (.int (wideN pc28))), none, none, none, none, none, none] [r0, r1] := by kernel_rfl
theorem com_29 : tst (commonV pc29) := by unfold tst; intros; kernel_rfl
theorem cut_29 : tst (cutsV pc29 pc29.length) := by unfold tst; intros; kernel_rfl
theorem bent_29 (r0 r1 : C) (w0 : Option W) : (pairs pc29 pc29.length).map (fun pk => (sSeq p3_law p4_law) (rhoL w0 pk.1 pk.2 none) [r0, r1]) = (pairs pc29 pc29.length).map fun pk => RS.nx (rhoL w0 pk.1 pk.2 (some (.d (.lst (bentN pk.1 pk.2))))) [r0, r1] := by kernel_rfl
theorem rest_29 (r0 r1 : C) (w0 w3 w4 w5 w6 : Option W) : restL [w0, some (.r 1), some (.d (pieceD pc29)), w3, w4, w5, w6, none, none, none, none, none, none, none, none, none] [r0, r1] = RS.nx [w0, some (.r 1), some (.d (pieceD pc29)), w3, w4, w5, w6, some (.d (.bl false)), some (.d (.int (highN pc29))), some (.d (.int (wideN pc29))), none, none, none, none, none, none] [r0, r1] := by kernel_rfl
theorem com_30 : tst (commonV pc30) := by unfold tst; intros; kernel_rfl
theorem cut_30 : tst (cutsV pc30 pc30.length) := by unfold tst; intros; kernel_rfl
theorem bent_30 (r0 r1 : C) (w0 : Option W) : (pairs pc30 pc30.length).map (fun pk => (sSeq p3_law p4_law) (rhoL w0 pk.1 pk.2 none) [r0, r1]) = (pairs pc30 pc30.length).map fun pk => RS.nx (rhoL w0 pk.1 pk.2 (some (.d (.lst (bentN pk.1 pk.2))))) [r0, r1] := by kernel_rfl
theorem rest_30 (r0 r1 : C) (w0 w3 w4 w5 w6 : Option W) : restL [w0, some (.r 1), some (.d (pieceD pc30)), w3, w4, w5, w6, none, none, none, none, none, none, none, none, none] [r0, r1] = RS.nx [w0, some (.r 1), some (.d (pieceD pc30)), w3, w4, w5, w6, some (.d (.bl false)), some (.d (.int (highN pc30))), some (.d (.int (wideN pc30))), none, none, none, none, none, none] [r0, r1] := by kernel_rfl
theorem com_31 : tst (commonV pc31) := by unfold tst; intros; kernel_rfl
theorem cut_31 : tst (cutsV pc31 pc31.length) := by unfold tst; intros; kernel_rfl
theorem bent_31 (r0 r1 : C) (w0 : Option W) : (pairs pc31 pc31.length).map (fun pk => (sSeq p3_law p4_law) (rhoL w0 pk.1 pk.2 none) [r0, r1]) = (pairs pc31 pc31.length).map fun pk => RS.nx (rhoL w0 pk.1 pk.2 (some (.d (.lst (bentN pk.1 pk.2))))) [r0, r1] := by kernel_rfl
theorem rest_31 (r0 r1 : C) (w0 w3 w4 w5 w6 : Option W) : restL [w0, some (.r 1), some (.d (pieceD pc31)), w3, w4, w5, w6, none, none, none, none, none, none, none, none, none] [r0, r1] = RS.nx [w0, some (.r 1), some (.d (pieceD pc31)), w3, w4, w5, w6, some (.d (.bl false)), some (.d (.int (highN pc31))), some (.d (.int (wideN pc31))), none, none, none, none, none, none] [r0, r1] := by kernel_rfl
theorem com_32 : tst (commonV pc32) := by unfold tst; intros; kernel_rfl
theorem cut_32 : tst (cutsV pc32 pc32.length) := by unfold tst; intros; kernel_rfl
theorem bent_32 (r0 r1 : C) (w0 : Option W) : (pairs pc32 pc32.length).map (fun pk => (sSeq p3_law p4_law) (rhoL w0 pk.1 pk.2 none) [r0, r1]) = (pairs pc32 pc32.length).map fun pk => RS.nx (rhoL w0 pk.1 pk.2 (some (.d (.lst (bentN pk.1 pk.2))))) [r0, r1] := by kernel_rfl
theorem rest_32 (r0 r1 : C) (w0 w3 w4 w5 w6 : Option W) : restL [w0, some (.r 1), some (.d (pieceD pc32)), w3, w4, w5, w6, none, none, none, none, none, none, none, none, none] [r0, r1] = RS.nx [w0, some (.r 1), some (.d (pieceD pc32)), w3, w4, w5, w6, some (.d (.bl false)), some (.d (.int (highN pc32))), some (.d (.int (wideN pc32))), none, none, none, none, none, none] [r0, r1] := by kernel_rfl
theorem com_33 : tst (commonV pc33) := by unfold tst; intros; kernel_rfl
theorem cut_33 : tst (cutsV pc33 pc33.length) := by unfold tst; intros; kernel_rfl
theorem bent_33 (r0 r1 : C) (w0 : Option W) : (pairs pc33 pc33.length).map (fun pk => (sSeq p3_law p4_law) (rhoL w0 pk.1 pk.2 none) [r0, r1]) = (pairs pc33 pc33.length).map fun pk => RS.nx (rhoL w0 pk.1 pk.2 (some (.d (.lst (bentN pk.1 pk.2))))) [r0, r1] := by kernel_rfl
theorem rest_33 (r0 r1 : C) (w0 w3 w4 w5 w6 : Option W) : restL [w0, some (.r 1), some (.d (pieceD pc33)), w3, w4, w5, w6, none, none, none, none, none, none, none, none, none] [r0, r1] = RS.nx [w0, some (.r 1), some (.d (pieceD pc33)), w3, w4, w5, w6, some (.d (.bl false)), some (.d (.int (highN pc33))), some (.d (.int (wideN pc33))), none, none, none, none, none, none] [r0, r1] := by kernel_rfl
theorem com_34 : tst (commonV pc34) := by unfold tst; intros; kernel_rfl
theorem cut_34 : tst (cutsV pc34 pc34.length) := by unfold tst; intros; kernel_rfl
theorem bent_34 (r0 r1 : C) (w0 : Option W) : (pairs pc34 pc34.length).map (fun pk => (sSeq p3_law p4_law) (rhoL w0 pk.1 pk.2 none) [r0, r1]) = (pairs pc34 pc34.length).map fun pk => RS.nx (rhoL w0 pk.1 pk.2 (some (.d (.lst (bentN pk.1 pk.2))))) [r0, r1] := by kernel_rfl
theorem rest_34 (r0 r1 : C) (w0 w3 w4 w5 w6 : Option W) : restL [w0, some (.r 1), some (.d (pieceD pc34)), w3, w4, w5, w6, none, none, none, none, none, none, none, none, none] [r0, r1] = RS.nx [w0, some (.r 1), some (.d (pieceD pc34)), w3, w4, w5, w6, some (.d (.bl false)), some (.d (.int (highN pc34))), some (.d (.int (wideN pc34))), none, none, none, none, none, none] [r0, r1] := by kernel_rfl
theorem com_35 : tst (commonV pc35) := by unfold tst; intros; kernel_rfl
theorem cut_35 : tst (cutsV pc35 pc35.length) := by unfold tst; intros; kernel_rfl
theorem bent_35 (r0 r1 : C) (w0 : Option W) : (pairs pc35 pc35.length).map (fun pk => (sSeq p3_law p4_law) (rhoL w0 pk.1 pk.2 none) [r0, r1]) = (pairs pc35 pc35.length).map fun pk => RS.nx (rhoL w0 pk.1 pk.2 (some (.d (.lst (bentN pk.1 pk.2))))) [r0, r1] := by kernel_rfl
theorem rest_35 (r0 r1 : C) (w0 w3 w4 w5 w6 : Option W) : restL [w0, some (.r 1), some (.d (pieceD pc35)), w3, w4, w5, w6, none, none, none, none, none, none, none, none, none] [r0, r1] = RS.nx [w0, some (.r 1), some (.d (pieceD pc35)), w3, w4, w5, w6, some (.d (.bl false)), some (.d (.int (highN pc35))), some (.d (.int (wideN pc35))), none, none, none, none, none, none] [r0, r1] := by kernel_rfl
theorem com_36 : tst (commonV pc36) := by unfold tst; intros; kernel_rfl
theorem cut_36 : tst (cutsV pc36 pc36.length) := by unfold tst; intros; kernel_rfl
theorem bent_36 (r0 r1 : C) (w0 : Option W) : (pairs pc36 pc36.length).map (fun pk => (sSeq p3_law p4_law) (rhoL w0 pk.1 pk.2 none) [r0, r1]) = (pairs pc36 pc36.length).map fun pk => RS.nx (rhoL w0 pk.1 pk.2 (some (.d (.lst (bentN pk.1 pk.2))))) [r0, r1] := by kernel_rfl
theorem rest_36 (r0 r1 : C) (w0 w3 w4 w5 w6 : Option W) : restL [w0, some (.r 1), some (.d (pieceD pc36)), w3, w4, w5, w6, none, none, none, none, none, none, none, none, none] [r0, r1] = RS.nx [w0, some (.r 1), some (.d (pieceD pc36)), w3, w4, w5, w6, some (.d (.bl false)), some (.d (.int (highN pc36))), some (.d (.int (wideN pc36))), none, none, none, none, none, none] [r0, r1] := by kernel_rfl
theorem com_37 : tst (commonV pc37) := by unfold tst; intros; kernel_rfl
theorem cut_37 : tst (cutsV pc37 pc37.length) := by unfold tst; intros; kernel_rfl
theorem bent_37 (r0 r1 : C) (w0 : Option W) : (pairs pc37 pc37.length).map (fun pk => (sSeq p3_law p4_law) (rhoL w0 pk.1 pk.2 none) [r0, r1]) = (pairs pc37 pc37.length).map fun pk => RS.nx (rhoL w0 pk.1 pk.2 (some (.d (.lst (bentN pk.1 pk.2))))) [r0, r1] := by kernel_rfl
theorem rest_37 (r0 r1 : C) (w0 w3 w4 w5 w6 : Option W) : restL [w0, some (.r 1), some (.d (pieceD pc37)), w3, w4, w5, w6, none, none, none, none, none, none, none, none, none] [r0, r1] = RS.nx [w0, some (.r 1), some (.d (pieceD pc37)), w3, w4, w5, w6, some (.d (.bl false)), some (.d (.int (highN pc37))), some (.d (.int (wideN pc37))), none, none, none, none, none, none] [r0, r1] := by kernel_rfl
theorem com_38 : tst (commonV pc38) := by unfold tst; intros; kernel_rfl
theorem cut_38 : tst (cutsV pc38 pc38.length) := by unfold tst; intros; kernel_rfl
theorem bent_38 (r0 r1 : C) (w0 : Option W) : (pairs pc38 pc38.length).map (fun pk => (sSeq p3_law p4_law) (rhoL w0 pk.1 pk.2 none) [r0, r1]) = (pairs pc38 pc38.length).map fun pk => RS.nx (rhoL w0 pk.1 pk.2 (some (.d (.lst (bentN pk.1 pk.2))))) [r0, r1] := by kernel_rfl
theorem rest_38 (r0 r1 : C) (w0 w3 w4 w5 w6 : Option W) : restL [w0, some (.r 1), some (.d (pieceD pc38)), w3, w4, w5, w6, none, none, none, none, none, none, none, none, none] [r0, r1] = RS.nx [w0, some (.r 1), some (.d (pieceD pc38)), w3, w4, w5, w6, some (.d (.bl false)), some (.d (.int (highN pc38))), some (.d (.int (wideN pc38))), none, none, none, none, none, none] [r0, r1] := by kernel_rfl
theorem com_39 : tst (commonV pc39) := by unfold tst; intros; kernel_rfl
theorem cut_39 : tst (cutsV pc39 pc39.length) := by unfold tst; intros; kernel_rfl
theorem bent_39 (r0 r1 : C) (w0 : Option W) : (pairs pc39 pc39.length).map (fun pk => (sSeq p3_law p4_law) (rhoL w0 pk.1 pk.2 none) [r0, r1]) = (pairs pc39 pc39.length).map fun pk => RS.nx (rhoL w0 pk.1 pk.2 (some (.d (.lst (bentN pk.1 pk.2))))) [r0, r1] := by kernel_rfl
theorem rest_39 (r0 r1 : C) (w0 w3 w4 w5 w6 : Option W) : restL [w0, some (.r 1), some (.d (pieceD pc39)), w3, w4, w5, w6, none, none, none, none, none, none, none, none, none] [r0, r1] = RS.nx [w0, some (.r 1), some (.d (pieceD pc39)), w3, w4, w5, w6, some (.d (.bl false)), some (.d (.int (highN pc39))), some (.d (.int (wideN pc39))), none, none, none, none, none, none] [r0, r1] := by kernel_rfl
theorem com_40 : tst (commonV pc40) := by unfold tst; intros; kernel_rfl
theorem cut_40 : tst (cutsV pc40 pc40.length) := by unfold tst; intros; kernel_rfl
theorem bent_40 (r0 r1 : C) (w0 : Option W) : (pairs pc40 pc40.length).map (fun pk => (sSeq p3_law p4_law) (rhoL w0 pk.1 pk.2 none) [r0, r1]) = (pairs pc40 pc40.length).map fun pk => RS.nx (rhoL w0 pk.1 pk.2 (some (.d (.lst (bentN pk.1 pk.2))))) [r0, r1] := by kernel_rfl
theorem rest_40 (r0 r1 : C) (w0 w3 w4 w5 w6 : Option W) : restL [w0, some (.r 1), some (.d (pieceD pc40)), w3, w4, w5, w6, none, none, none, none, none, none, none, none, none] [r0, r1] = RS.nx [w0, some (.r 1), some (.d (pieceD pc40)), w3, w4, w5, w6, some (.d (.bl false)), some (.d (.int (highN pc40))), some (.d (.int (wideN pc40))), none, none, none, none, none, none] [r0, r1] := by kernel_rfl
theorem com_41 : tst (commonV pc41) := by unfold tst; intros; kernel_rfl
theorem cut_41 : tst (cutsV pc41 pc41.length) := by unfold tst; intros; kernel_rfl
theorem bent_41 (r0 r1 : C) (w0 : Option W) : (pairs pc41 pc41.length).map (fun pk => (sSeq p3_law p4_law) (rhoL w0 pk.1 pk.2 none) [r0, r1]) = (pairs pc41 pc41.length).map fun pk => RS.nx (rhoL w0 pk.1 pk.2 (some (.d (.lst (bentN pk.1 pk.2))))) [r0, r1] := by kernel_rfl
theorem rest_41 (r0 r1 : C) (w0 w3 w4 w5 w6 : Option W) : restL [w0, some (.r 1), some (.d (pieceD pc41)), w3, w4, w5, w6, none, none, none, none, none, none, none, none, none] [r0, r1] = RS.nx [w0, some (.r 1), some (.d (pieceD pc41)), w3, w4, w5, w6, some (.d (.bl false)), some (.d (.int (highN pc41))), some (.d (.int (wideN pc41))), none, none, none, none, none, none] [r0, r1] := by kernel_rfl
theorem com_42 : tst (commonV pc42) := by unfold tst; intros; kernel_rfl
theorem cut_42 : tst (cutsV pc42 pc42.length) := by unfold tst; intros; kernel_rfl
theorem bent_42 (r0 r1 : C) (w0 : Option W) : (pairs pc42 pc42.length).map (fun pk => (sSeq p3_law p4_law) (rhoL w0 pk.1 pk.2 none) [r0, r1]) = (pairs pc42 pc42.length).map fun pk => RS.nx (rhoL w0 pk.1 pk.2 (some (.d (.lst (bentN pk.1 pk.2))))) [r0, r1] := by kernel_rfl
theorem rest_42 (r0 r1 : C) (w0 w3 w4 w5 w6 : Option W) : restL [w0, some (.r 1), some (.d (pieceD pc42)), w3, w4, w5, w6, none, none, none, none, none, none, none, none, none] [r0, r1] = RS.nx [w0, some (.r 1), some (.d (pieceD pc42)), w3, w4, w5, w6, some (.d (.bl false)), some (.d (.int (highN pc42))), some (.d (.int (wideN pc42))), none, none, none, none, none, none] [r0, r1] := by kernel_rfl
theorem com_43 : tst (commonV pc43) := by unfold tst; intros; kernel_rfl
theorem cut_43 : tst (cutsV pc43 pc43.length) := by unfold tst; intros; kernel_rfl
theorem bent_43 (r0 r1 : C) (w0 : Option W) : (pairs pc43 pc43.length).map (fun pk => (sSeq p3_law p4_law) (rhoL w0 pk.1 pk.2 none) [r0, r1]) = (pairs pc43 pc43.length).map fun pk => RS.nx (rhoL w0 pk.1 pk.2 (some (.d (.lst (bentN pk.1 pk.2))))) [r0, r1] := by kernel_rfl
theorem rest_43 (r0 r1 : C) (w0 w3 w4 w5 w6 : Option W) : restL [w0, some (.r 1), some (.d (pieceD pc43)), w3, w4, w5, w6, none, none, none, none, none, none, none, none, none] [r0, r1] = RS.nx [w0, some (.r 1), some (.d (pieceD pc43)), w3, w4, w5, w6, some (.d (.bl false)), some (.d (.int (highN pc43))), some (.d (.int (wideN pc43))), none, none, none, none, none, none] [r0, r1] := by kernel_rfl
theorem com_44 : tst (commonV pc44) := by unfold tst; intros; kernel_rfl
theorem cut_44 : tst (cutsV pc44 pc44.length) := by unfold tst; intros; kernel_rfl
theorem bent_44 (r0 r1 : C) (w0 : Option W) : (pairs pc44 pc44.length).map (fun pk => (sSeq p3_law p4_law) (rhoL w0 pk.1 pk.2 none) [r0, r1]) = (pairs pc44 pc44.length).map fun pk => RS.nx (rhoL w0 pk.1 pk.2 (some (.d (.lst (bentN pk.1 pk.2))))) [r0, r1] := by kernel_rfl
theorem rest_44 (r0 r1 : C) (w0 w3 w4 w5 w6 : Option W) : restL [w0, some (.r 1), some (.d (pieceD pc44)), w3, w4, w5, w6, none, none, none, none, none, none, none, none, none] [r0, r1] = RS.nx [w0, some (.r 1), some (.d (pieceD pc44)), w3, w4, w5, w6, some (.d (.bl false)), some (.d (.int (highN pc44))), some (.d (.int (wideN pc44))), none, none, none, none, none, none] [r0, r1] := by kernel_rfl
theorem com_45 : tst (commonV pc45) := by unfold tst; intros; kernel_rfl
theorem cut_45 : tst (cutsV pc45 pc45.length) := by unfold tst; intros; kernel_rfl
theorem bent_45 (r0 r1 : C) (w0 : Option W) : (pairs pc45 pc45.length).map (fun pk => (sSeq p3_law p4_law) (rhoL w0 pk.1 pk.2 none) [r0, r1]) = (pairs pc45 pc45.length).map fun pk => RS.nx (rhoL w0 pk.1 pk.2 (some (.d (.lst (bentN pk.1 pk.2))))) [r0, r1] := by kernel_rfl
theorem rest_45 (r0 r1 : C) (w0 w3 w4 w5 w6 : Option W) : restL [w0, some (.r 1), some (.d (pieceD pc45)), w3, w4, w5, w6, none, none, none, none, none, none, none, none, none] [r0, r1] = RS.nx [w0, some (.r 1), some (.d (pieceD pc45)), w3, w4, w5, w6, some (.d (.bl false)), some (.d (.int (highN pc45))), some (.d (.int (wideN pc45))), none, none, none, none, none, none] [r0, r1] := by kernel_rfl
theorem com_46 : tst (commonV pc46) := by unfold tst; intros; kernel_rfl
theorem cut_46 : tst (cutsV pc46 pc46.length) := by unfold tst; intros; kernel_rfl
theorem bent_46 (r0 r1 : C) (w0 : Option W) : (pairs pc46 pc46.length).map (fun pk => (sSeq p3_law p4_law) (rhoL w0 pk.1 pk.2 none) [r0, r1]) = (pairs pc46 pc46.length).map fun pk => RS.nx (rhoL w0 pk.1 pk.2 (some (.d (.lst (bentN pk.1 pk.2))))) [r0, r1] := by kernel_rfl
theorem rest_46 (r0 r1 : C) (w0 w3 w4 w5 w6 : Option W) : restL [w0, some (.r 1), some (.d (pieceD pc46)), w3, w4, w5, w6, none, none, none, none, none, none, none, none, none] [r0, r1] = RS.nx [w0, some (.r 1), some (.d (pieceD pc46)), w3, w4, w5, w6, some (.d (.bl false)), some (.d (.int (highN pc46))), some (.d (.int (wideN pc46))), none, none, none, none, none, none] [r0, r1] := by kernel_rfl
theorem com_47 : tst (commonV pc47) := by unfold tst; intros; kernel_rfl
theorem cut_47 : tst (cutsV pc47 pc47.length) := by unfold tst; intros; kernel_rfl
theorem bent_47 (r0 r1 : C) (w0 : Option W) : (pairs pc47 pc47.length).map (fun pk => (sSeq p3_law p4_law) (rhoL w0 pk.1 pk.2 none) [r0, r1]) = (pairs pc47 pc47.length).map fun pk => RS.nx (rhoL w0 pk.1 pk.2 (some (.d (.lst (bentN pk.1 pk.2))))) [r0, r1] := by kernel_rfl
theorem rest_47 (r0 r1 : C) (w0 w3 w4 w5 w6 : Option W) : restL [w0, some (.r 1), some (.d (pieceD pc47)), w3, w4, w5, w6, none, none, none, none, none, none, none, none, none] [r0, r1] = RS.nx [w0, some (.r 1), some (.d (pieceD pc47)), w3, w4, w5, w6, some (.d (.bl false)), some (.d (.int (highN pc47))), some (.d (.int (wideN pc47))), none, none, none, none, none, none] [r0, r1] := by kernel_rfl
theorem com_48 : tst (commonV pc48) := by unfold tst; intros; kernel_rfl
theorem cut_48 : tst (cutsV pc48 pc48.length) := by unfold tst; intros; kernel_rfl
theorem bent_48 (r0 r1 : C) (w0 : Option W) : (pairs pc48 pc48.length).map (fun pk => (sSeq p3_law p4_law) (rhoL w0 pk.1 pk.2 none) [r0, r1]) = (pairs pc48 pc48.length).map fun pk => RS.nx (rhoL w0 pk.1 pk.2 (some (.d (.lst (bentN pk.1 pk.2))))) [r0, r1] := by kernel_rfl
theorem rest_48 (r0 r1 : C) (w0 w3 w4 w5 w6 : Option W) : restL [w0, some (.r 1), some (.d (pieceD pc48)), w3, w4, w5, w6, none, none, none, none, none, none, none, none, none] [r0, r1] = RS.nx [w0, some (.r 1), some (.d (pieceD pc48)), w3, w4, w5, w6, some (.d (.bl false)), some (.d (.int (highN pc48))), some (.d (.int (wideN pc48))), none, none, none, none, none, none] [r0, r1] := by kernel_rfl
theorem com_49 : tst (commonV pc49) := by unfold tst; intros; kernel_rfl
theorem cut_49 : tst (cutsV pc49 pc49.length) := by unfold tst; intros; kernel_rfl
theorem bent_49 (r0 r1 : C) (w0 : Option W) : (pairs pc49 pc49.length).map (fun pk => (sSeq p3_law p4_law) (rhoL w0 pk.1 pk.2 none) [r0, r1]) = (pairs pc49 pc49.length).map fun pk => RS.nx (rhoL w0 pk.1 pk.2 (some (.d (.lst (bentN pk.1 pk.2))))) [r0, r1] := by kernel_rfl
theorem rest_49 (r0 r1 : C) (w0 w3 w4 w5 w6 : Option W) : restL [w0, some (.r 1), some (.d (pieceD pc49)), w3, w4, w5, w6, none, none, none, none, none, none, none, none, none] [r0, r1] = RS.nx [w0, some (.r 1), some (.d (pieceD pc49)), w3, w4, w5, w6, some (.d (.bl false)), some (.d (.int (highN pc49))), some (.d (.int (wideN pc49))), none, none, none, none, none, none] [r0, r1] := by kernel_rfl
theorem com_50 : tst (commonV pc50) := by unfold tst; intros; kernel_rfl
theorem cut_50 : tst (cutsV pc50 pc50.length) := by unfold tst; intros; kernel_rfl
theorem bent_50 (r0 r1 : C) (w0 : Option W) : (pairs pc50 pc50.length).map (fun pk => (sSeq p3_law p4_law) (rhoL w0 pk.1 pk.2 none) [r0, r1]) = (pairs pc50 pc50.length).map fun pk => RS.nx (rhoL w0 pk.1 pk.2 (some (.d (.lst (bentN pk.1 pk.2))))) [r0, r1] := by kernel_rfl
theorem rest_50 (r0 r1 : C) (w0 w3 w4 w5 w6 : Option W) : restL [w0, some (.r 1), some (.d (pieceD pc50)), w3, w4, w5, w6, none, none, none, none, none, none, none, none, none] [r0, r1] = RS.nx [w0, some (.r 1), some (.d (pieceD pc50)), w3, w4, w5, w6, some (.d (.bl false)), some (.d (.int (highN pc50))), some (.d (.int (wideN pc50))), none, none, none, none, none, none] [r0, r1] := by kernel_rfl
theorem com_51 : tst (commonV pc51) := by unfold tst; intros; kernel_rfl
theorem cut_51 : tst (cutsV pc51 pc51.length) := by unfold tst; intros; kernel_rfl
theorem bent_51 (r0 r1 : C) (w0 : Option W) : (pairs pc51 pc51.length).map (fun pk => (sSeq p3_law p4_law) (rhoL w0 pk.1 pk.2 none) [r0, r1]) = (pairs pc51 pc51.length).map fun pk => RS.nx (rhoL w0 pk.1 pk.2 (some (.d (.lst (bentN pk.1 pk.2))))) [r0, r1] := by kernel_rfl
theorem rest_51 (r0 r1 : C) (w0 w3 w4 w5 w6 : Option W) : restL [w0, some (.r 1), some (.d (pieceD pc51)), w3, w4, w5, w6, none, none, none, none, none, none, none, none, none] [r0, r1] = RS.nx [w0, some (.r 1), some (.d (pieceD pc51)), w3, w4, w5, w6, some (.d (.bl false)), some (.d (.int (highN pc51))), some (.d (.int (wideN pc51))), none, none, none, none, none, none] [r0, r1] := by kernel_rfl
theorem com_52 : tst (commonV pc52) := by unfold tst; intros; kernel_rfl
theorem cut_52 : tst (cutsV pc52 pc52.length) := by unfold tst; intros; kernel_rfl
theorem bent_52 (r0 r1 : C) (w0 : Option W) : (pairs pc52 pc52.length).map (fun pk => (sSeq p3_law p4_law) (rhoL w0 pk.1 pk.2 none) [r0, r1]) = (pairs pc52 pc52.length).map fun pk => RS.nx (rhoL w0 pk.1 pk.2 (some (.d (.lst (bentN pk.1 pk.2))))) [r0, r1] := by kernel_rfl
theorem rest_52 (r0 r1 : C) (w0 w3 w4 w5 w6 : Option W) : restL [w0, some (.r 1), some (.d (pieceD pc52)), w3, w4, w5, w6, none, none, none, none, none, none, none, none, none] [r0, r1] = RS.nx [w0, some (.r 1), some (.d (pieceD pc52)), w3, w4, w5, w6, some (.d (.bl false)), some (.d (.int (highN pc52))), some (.d (.int (wideN pc52))), none, none, none, none, none, none] [r0, r1] := by kernel_rfl
theorem com_53 : tst (commonV pc53) := by unfold tst; intros; kernel_rfl
theorem cut_53 : tst (cutsV pc53 pc53.length) := by unfold tst; intros; kernel_rfl
theorem bent_53 (r0 r1 : C) (w0 : Option W) : (pairs pc53 pc53.length).map (fun pk => (sSeq p3_law p4_law) (rhoL w0 pk.1 pk.2 none) [r0, r1]) = (pairs pc53 pc53.length).map fun pk => RS.nx (rhoL w0 pk.1 pk.2 (some (.d (.lst (bentN pk.1 pk.2))))) [r0, r1] := by kernel_rfl
theorem rest_53 (r0 r1 : C) (w0 w3 w4 w5 w6 : Option W) : restL [w0, some (.r 1), some (.d (pieceD pc53)), w3, w4, w5, w6, none, none, none, none, none, none, none, none, none] [r0, r1] = RS.nx [w0, some (.r 1), some (.d (pieceD pc53)), w3, w4, w5, w6, some (.d (.bl false)), some (.d (.int (highN pc53))), some (.d (.int (wideN pc53))), none, none, none, none, none, none] [r0, r1] := by kernel_rfl
theorem com_54 : tst (commonV pc54) := by unfold tst; intros; kernel_rfl
theorem cut_54 : tst (cutsV pc54 pc54.length) := by unfold tst; intros; kernel_rfl
theorem bent_54 (r0 r1 : C) (w0 : Option W) : (pairs pc54 pc54.length).map (fun pk => (sSeq p3_law p4_law) (rhoL w0 pk.1 pk.2 none) [r0, r1]) = (pairs pc54 pc54.length).map fun pk => RS.nx (rhoL w0 pk.1 pk.2 (some (.d (.lst (bentN pk.1 pk.2))))) [r0, r1] := by kernel_rfl
theorem rest_54 (r0 r1 : C) (w0 w3 w4 w5 w6 : Option W) : restL [w0, some (.r 1), some (.d (pieceD pc54)), w3, w4, w5, w6, none, none, none, none, none, none, none, none, none] [r0, r1] = RS.nx [w0, some (.r 1), some (.d (pieceD pc54)), w3, w4, w5, w6, some (.d (.bl false)), some (.d (.int (highN pc54))), some (.d (.int (wideN pc54))), none, none, none, none, none, none] [r0, r1] := by kernel_rfl
theorem com_55 : tst (commonV pc55) := by unfold tst; intros; kernel_rfl
theorem cut_55 : tst (cutsV pc55 pc55.length) := by unfold tst; intros; kernel_rfl
theorem bent_55 (r0 r1 : C) (w0 : Option W) : (pairs pc55 pc55.length).map (fun pk => (sSeq p3_law p4_law) (rhoL w0 pk.1 pk.2 none) [r0, r1]) = (pairs pc55 pc55.length).map fun pk => RS.nx (rhoL w0 pk.1 pk.2 (some (.d (.lst (bentN pk.1 pk.2))))) [r0, r1] := by kernel_rfl
theorem rest_55 (r0 r1 : C) (w0 w3 w4 w5 w6 : Option W) : restL [w0, some (.r 1), some (.d (pieceD pc55)), w3, w4, w5, w6, none, none, none, none, none, none, none, none, none] [r0, r1] = RS.nx [w0, some (.r 1), some (.d (pieceD pc55)), w3, w4, w5, w6, some (.d (.bl false)), some (.d (.int (highN pc55))), some (.d (.int (wideN pc55))), none, none, none, none, none, none] [r0, r1] := by kernel_rfl
theorem com_56 : tst (commonV pc56) := by unfold tst; intros; kernel_rfl
theorem cut_56 : tst (cutsV pc56 pc56.length) := by unfold tst; intros; kernel_rfl
theorem bent_56 (r0 r1 : C) (w0 : Option W) : (pairs pc56 pc56.length).map (fun pk => (sSeq p3_law p4_law) (rhoL w0 pk.1 pk.2 none) [r0, r1]) = (pairs pc56 pc56.length).map fun pk => RS.nx (rhoL w0 pk.1 pk.2 (some (.d (.lst (bentN pk.1 pk.2))))) [r0, r1] := by kernel_rfl
theorem rest_56 (r0 r1 : C) (w0 w3 w4 w5 w6 : Option W) : restL [w0, some (.r 1), some (.d (pieceD pc56)), w3, w4, w5, w6, none, none, none, none, none, none, none, none, none] [r0, r1] = RS.nx [w0, some (.r 1), some (.d (pieceD pc56)), w3, w4, w5, w6, some (.d (.bl false)), some (.d (.int (highN pc56))), some (.d (.int (wideN pc56))), none, none, none, none, none, none] [r0, r1] := by kernel_rfl
theorem com_57 : tst (commonV pc57) := by unfold tst; intros; kernel_rfl
theorem cut_57 : tst (cutsV pc57 pc57.length) := by unfold tst; intros; kernel_rfl
theorem bent_57 (r0 r1 : C) (w0 : Option W) : (pairs pc57 pc57.length).map (fun pk => (sSeq p3_law p4_law) (rhoL w0 pk.1 pk.2 none) [r0, r1]) = (pairs pc57 pc57.length).map fun pk => RS.nx (rhoL w0 pk.1 pk.2 (some (.d (.lst (bentN pk.1 pk.2))))) [r0, r1] := by kernel_rfl
theorem rest_57 (r0 r1 : C) (w0 w3 w4 w5 w6 : Option W) : restL [w0, some (.r 1), some (.d (pieceD pc57)), w3, w4, w5, w6, none, none, none, none, none, none, none, none, none] [r0, r1] = RS.nx [w0, some (.r 1), some (.d (pieceD pc57)), w3, w4, w5, w6, some (.d (.bl false)), some (.d (.int (highN pc57))), some (.d (.int (wideN pc57))), none, none, none, none, none, none] [r0, r1] := by kernel_rfl
theorem com_58 : tst (commonV pc58) := by unfold tst; intros; kernel_rfl
theorem cut_58 : tst (cutsV pc58 pc58.length) := by unfold tst; intros; kernel_rfl
theorem bent_58 (r0 r1 : C) (w0 : Option W) : (pairs pc58 pc58.length).map (fun pk => (sSeq p3_law p4_law) (rhoL w0 pk.1 pk.2 none) [r0, r1]) = (pairs pc58 pc58.length).map fun pk => RS.nx (rhoL w0 pk.1 pk.2 (some (.d (.lst (bentN pk.1 pk.2))))) [r0, r1] := by kernel_rfl
theorem rest_58 (r0 r1 : C) (w0 w3 w4 w5 w6 : Option W) : restL [w0, some (.r 1), some (.d (pieceD pc58)), w3, w4, w5, w6, none, none, none, none, none, none, none, none, none] [r0, r1] = RS.nx [w0, some (.r 1), some (.d (pieceD pc58)), w3, w4, w5, w6, some (.d (.bl false)), some (.d (.int (highN pc58))), some (.d (.int (wideN pc58))), none, none, none, none, none, none] [r0, r1] := by kernel_rfl
theorem com_59 : tst (commonV pc59) := by unfold tst; intros; kernel_rfl
theorem cut_59 : tst (cutsV pc59 pc59.length) := by unfold tst; intros; kernel_rfl
theorem bent_59 (r0 r1 : C) (w0 : Option W) : (pairs pc59 pc59.length).map (fun pk => (sSeq p3_law p4_law) (rhoL w0 pk.1 pk.2 none) [r0, r1]) = (pairs pc59 pc59.length).map fun pk => RS.nx (rhoL w0 pk.1 pk.2 (some (.d (.lst (bentN pk.1 pk.2))))) [r0, r1] := by kernel_rfl
theorem rest_59 (r0 r1 : C) (w0 w3 w4 w5 w6 : Option W) : restL [w0, some (.r 1), some (.d (pieceD pc59)), w3, w4, w5, w6, none, none, none, none, none, none, none, none, none] [r0, r1] = RS.nx [w0, some (.r 1), some (.d (pieceD pc59)), w3, w4, w5, w6, some (.d (.bl false)), some (.d (.int (highN pc59))), some (.d (.int (wideN pc59))), none, none, none, none, none, none] [r0, r1] := by kernel_rfl
theorem com_60 : tst (commonV pc60) := by unfold tst; intros; kernel_rfl
theorem cut_60 : tst (cutsV pc60 pc60.length) := by unfold tst; intros; kernel_rfl
theorem bent_60 (r0 r1 : C) (w0 : Option W) : (pairs pc60 pc60.length).map (fun pk => (sSeq p3_law p4_law) (rhoL w0 pk.1 pk.2 none) [r0, r1]) = (pairs pc60 pc60.length).map fun pk => RS.nx (rhoL w0 pk.1 pk.2 (some (.d (.lst (bentN pk.1 pk.2))))) [r0, r1] := by kernel_rfl
theorem rest_60 (r0 r1 : C) (w0 w3 w4 w5 w6 : Option W) : restL [w0, some (.r 1), some (.d (pieceD pc60)), w3, w4, w5, w6, none, none, none, none, none, none, none, none, none] [r0, r1] = RS.nx [w0, some (.r 1), some (.d (pieceD pc60)), w3, w4, w5, w6, some (.d (.bl false)), some (.d (.int (highN pc60))), some (.d (.int (wideN pc60))), none, none, none, none, none, none] [r0, r1] := by kernel_rfl
theorem com_61 : tst (commonV pc61) := by unfold tst; intros; kernel_rfl
theorem cut_61 : tst (cutsV pc61 pc61.length) := by unfold tst; intros; kernel_rfl
theorem bent_61 (r0 r1 : C) (w0 : Option W) : (pairs pc61 pc61.length).map (fun pk => (sSeq p3_law p4_law) (rhoL w0 pk.1 pk.2 none) [r0, r1]) = (pairs pc61 pc61.length).map fun pk => RS.nx (rhoL w0 pk.1 pk.2 (some (.d (.lst (bentN pk.1 pk.2))))) [r0, r1] := by kernel_rfl
theorem rest_61 (r0 r1 : C) (w0 w3 w4 w5 w6 : Option W) : restL [w0, some (.r 1), some (.d (pieceD pc61)), w3, w4, w5, w6, none, none, none, none, none, none, none, none, none] [r0, r1] = RS.nx [w0, some (.r 1), some (.d (pieceD pc61)), w3, w4, w5, w6, some (.d (.bl false)), some (.d (.int (highN pc61))), some (.d (.int (wideN pc61))), none, none, none, none, none, none] [r0, r1] := by kernel_rfl
theorem com_62 : tst (commonV pc62) := by unfold tst; intros; kernel_rfl
theorem cut_62 : tst (cutsV pc62 pc62.length) := by unfold tst; intros; kernel_rfl
theorem bent_62 (r0 r1 : C) (w0 : Option W) : (pairs pc62 pc62.length).map (fun pk => (sSeq p3_law p4_law) (rhoL w0 pk.1 pk.2 none) [r0, r1]) = (pairs pc62 pc62.length).map fun pk => RS.nx (rhoL w0 pk.1 pk.2 (some (.d (.lst (bentN pk.1 pk.2))))) [r0, r1] := by kernel_rfl
theorem rest_62 (r0 r1 : C) (w0 w3 w4 w5 w6 : Option W) : restL [w0, some (.r 1), some (.d (pieceD pc62)), w3, w4, w5, w6, none, none, none, none, none, none, none, none, none] [r0, r1] = RS.nx [w0, some (.r 1), some (.d (pieceD pc62)), w3, w4, w5, w6, some (.d (.bl false)), some (.d (.int (highN pc62))), some (.d (.int (wideN pc62))), none, none, none, none, none, none] [r0, r1] := by kernel_rfl
theorem com_63 : tst (commonV pc63) := by unfold tst; intros; kernel_rfl
theorem cut_63 : tst (cutsV pc63 pc63.length) := by unfold tst; intros; kernel_rfl
theorem bent_63 (r0 r1 : C) (w0 : Option W) : (pairs pc63 pc63.length).map (fun pk => (sSeq p3_law p4_law) (rhoL w0 pk.1 pk.2 none) [r0, r1]) = (pairs pc63 pc63.length).map fun pk => RS.nx (rhoL w0 pk.1 pk.2 (some (.d (.lst (bentN pk.1 pk.2))))) [r0, r1] := by kernel_rfl
theorem rest_63 (r0 r1 : C) (w0 w3 w4 w5 w6 : Option W) : restL [w0, some (.r 1), some (.d (pieceD pc63)), w3, w4, w5, w6, none, none, none, none, none, none, none, none, none] [r0, r1] = RS.nx [w0, some (.r 1), some (.d (pieceD pc63)), w3, w4, w5, w6, some (.d (.bl false)), some (.d (.int (highN pc63))), some (.d (.int (wideN pc63))), none, none, none, none, none, none] [r0, r1] := by kernel_rfl
theorem com_64 : tst (commonV pc64) := by unfold tst; intros; kernel_rfl
theorem cut_64 : tst (cutsV pc64 pc64.length) := by unfold tst; intros; kernel_rfl
theorem bent_64 (r0 r1 : C) (w0 : Option W) : (pairs pc64 pc64.length).map (fun pk => (sSeq p3_law p4_law) (rhoL w0 pk.1 pk.2 none) [r0, r1]) = (pairs pc64 pc64.length).map fun pk => RS.nx (rhoL w0 pk.1 pk.2 (some (.d (.lst (bentN pk.1 pk.2))))) [r0, r1] := by kernel_rfl
theorem rest_64 (r0 r1 : C) (w0 w3 w4 w5 w6 : Option W) : restL [w0, some (.r 1), some (.d (pieceD pc64)), w3, w4, w5, w6, none, none, none, none, none, none, none, none, none] [r0, r1] = RS.nx [w0, some (.r 1), some (.d (pieceD pc64)), w3, w4, w5, w6, some (.d (.bl false)), some (.d (.int (highN pc64))), some (.d (.int (wideN pc64))), none, none, none, none, none, none] [r0, r1] := by kernel_rfl
theorem com_65 : tst (commonV pc65) := by unfold tst; intros; kernel_rfl
theorem cut_65 : tst (cutsV pc65 pc65.length) := by unfold tst; intros; kernel_rfl
theorem bent_65 (r0 r1 : C) (w0 : Option W) : (pairs pc65 pc65.length).map (fun pk => (sSeq p3_law p4_law) (rhoL w0 pk.1 pk.2 none) [r0, r1]) = (pairs pc65 pc65.length).map fun pk => RS.nx (rhoL w0 pk.1 pk.2 (some (.d (.lst (bentN pk.1 pk.2))))) [r0, r1] := by kernel_rfl
theorem rest_65 (r0 r1 : C) (w0 w3 w4 w5 w6 : Option W) : restL [w0, some (.r 1), some (.d (pieceD pc65)), w3, w4, w5, w6, none, none, none, none, none, none, none, none, none] [r0, r1] = RS.nx [w0, some (.r 1), some (.d (pieceD pc65)), w3, w4, w5, w6, some (.d (.bl false)), some (.d (.int (highN pc65))), some (.d (.int (wideN pc65))), none, none, none, none, none, none] [r0, r1] := by kernel_rfl
theorem com_66 : tst (commonV pc66) := by unfold tst; intros; kernel_rfl
theorem cut_66 : tst (cutsV pc66 pc66.length) := by unfold tst; intros; kernel_rfl
theorem bent_66 (r0 r1 : C) (w0 : Option W) : (pairs pc66 pc66.length).map (fun pk => (sSeq p3_law p4_law) (rhoL w0 pk.1 pk.2 none) [r0, r1]) = (pairs pc66 pc66.length).map fun pk => RS.nx (rhoL w0 pk.1 pk.2 (some (.d (.lst (bentN pk.1 pk.2))))) [r0, r1] := by kernel_rfl
theorem rest_66 (r0 r1 : C) (w0 w3 w4 w5 w6 : Option W) : restL [w0, some (.r 1), some (.d (pieceD pc66)), w3, w4, w5, w6, none, none, none, none, none, none, none, none, none] [r0, r1] = RS.nx [w0, some (.r 1), some (.d (pieceD pc66)), w3, w4, w5, w6, some (.d (.bl false)), some (.d (.int (highN pc66))), some (.d (.int (wideN pc66))), none, none, none, none, none, none] [r0, r1] := by kernel_rfl
theorem com_67 : tst (commonV pc67) := by unfold tst; intros; kernel_rfl
theorem cut_67 : tst (cutsV pc67 pc67.length) := by unfold tst; intros; kernel_rfl
theorem bent_67 (r0 r1 : C) (w0 : Option W) : (pairs pc67 pc67.length).map (fun pk => (sSeq p3_law p4_law) (rhoL w0 pk.1 pk.2 none) [r0, r1]) = (pairs pc67 pc67.length).map fun pk => RS.nx (rhoL w0 pk.1 pk.2 (some (.d (.lst (bentN pk.1 pk.2))))) [r0, r1] := by kernel_rfl
theorem rest_67 (r0 r1 : C) (w0 w3 w4 w5 w6 : Option W) : restL [w0, some (.r 1), some (.d (pieceD pc67)), w3, w4, w5, w6, none, none, none, none, none, none, none, none, none] [r0, r1] = RS.nx [w0, some (.r 1), some (.d (pieceD pc67)), w3, w4, w5, w6, some (.d (.bl false)), some (.d (.int (highN pc67))), some (.d (.int (wideN pc67))), none, none, none, none, none, none] [r0, r1] := by kernel_rfl
theorem com_68 : tst (commonV pc68) := by unfold tst; intros; kernel_rfl
theorem cut_68 : tst (cutsV pc68 pc68.length) := by unfold tst; intros; kernel_rfl
theorem bent_68 (r0 r1 : C) (w0 : Option W) : (pairs pc68 pc68.length).map (fun pk => (sSeq p3_law p4_law) (rhoL w0 pk.1 pk.2 none) [r0, r1]) = (pairs pc68 pc68.length).map fun pk => RS.nx (rhoL w0 pk.1 pk.2 (some (.d (.lst (bentN pk.1 pk.2))))) [r0, r1] := by kernel_rfl
theorem rest_68 (r0 r1 : C) (w0 w3 w4 w5 w6 : Option W) : restL [w0, some (.r 1), some (.d (pieceD pc68)), w3, w4, w5, w6, none, none, none, none, none, none, none, none, none] [r0, r1] = RS.nx [w0, some (.r 1), some (.d (pieceD pc68)), w3, w4, w5, w6, some (.d (.bl false)), some (.d (.int (highN pc68))), some (.d (.int (wideN pc68))), none, none, none, none, none, none] [r0, r1] := by kernel_rfl
theorem com_69 : tst (commonV pc69) := by unfold tst; intros; kernel_rfl
theorem cut_69 : tst (cutsV pc69 pc69.length) := by unfold tst; intros; kernel_rfl
theorem bent_69 (r0 r1 : C) (w0 : Option W) : (pairs pc69 pc69.length).map (fun pk => (sSeq p3_law p4_law) (rhoL w0 pk.1 pk.2 none) [r0, r1]) = (pairs pc69 pc69.length).map fun pk => RS.nx (rhoL w0 pk.1 pk.2 (some (.d (.lst (bentN pk.1 pk.2))))) [r0, r1] := by kernel_rfl
theorem rest_69 (r0 r1 : C) (w0 w3 w4 w5 w6 : Option W) : restL [w0, some (.r 1), some (.d (pieceD pc69)), w3, w4, w5, w6, none, none, none, none, none, none, none, none, none] [r0, r1] = RS.nx [w0, some (.r 1), some (.d (pieceD pc69)), w3, w4, w5, w6, some (.d (.bl false)), some (.d (.int (highN pc69))), some (.d (.int (wideN pc69))), none, none, none, none, none, none] [r0, r1] := by kernel_rfl
theorem com_70 : tst (commonV pc70) := by unfold tst; intros; kernel_rfl
theorem cut_70 : tst (cutsV pc70 pc70.length) := by unfold tst; intros; kernel_rfl
theorem bent_70 (r0 r1 : C) (w0 : Option W) : (pairs pc70 pc70.length).map (fun pk => (sSeq p3_law p4_law) (rhoL w0 pk.1 pk.2 none) [r0, r1]) = (pairs pc70 pc70.length).map fun pk => RS.nx (rhoL w0 pk.1 pk.2 (some (.d (.lst (bentN pk.1 pk.2))))) [r0, r1] := by kernel_rfl
theorem rest_70 (r0 r1 : C) (w0 w3 w4 w5 w6 : Option W) : restL [w0, some (.r 1), some (.d (pieceD pc70)), w3, w4, w5, w6, none, none, none, none, none, none, none, none, none] [r0, r1] = RS.nx [w0, some (.r 1), some (.d (pieceD pc70)), w3, w4, w5, w6, some (.d (.bl false)), some (.d (.int (highN pc70))), some (.d (.int (wideN pc70))), none, none, none, none, none, none] [r0, r1] := by kernel_rfl
theorem com_71 : tst (commonV pc71) := by unfold tst; intros; kernel_rfl
theorem cut_71 : tst (cutsV pc71 pc71.length) := by unfold tst; intros; kernel_rfl
theorem bent_71 (r0 r1 : C) (w0 : Option W) : (pairs pc71 pc71.length).map (fun pk => (sSeq p3_law p4_law) (rhoL w0 pk.1 pk.2 none) [r0, r1]) = (pairs pc71 pc71.length).map fun pk => RS.nx (rhoL w0 pk.1 pk.2 (some (.d (.lst (bentN pk.1 pk.2))))) [r0, r1] := by kernel_rfl
theorem rest_71 (r0 r1 : C) (w0 w3 w4 w5 w6 : Option W) : restL [w0, some (.r 1), some (.d (pieceD pc71)), w3, w4, w5, w6, none, none, none, none, none, none, none, none, none] [r0, r1] = RS.nx [w0, some (.r 1), some (.d (pieceD pc71)), w3, w4, w5, w6, some (.d (.bl false)), some (.d (.int (highN pc71))), some (.d (.int (wideN pc71))), none, none, none, none, none, none] [r0, r1] := by kernel_rfl
theorem com_72 : tst (commonV pc72) := by unfold tst; intros; kernel_rfl
theorem cut_72 : tst (cutsV pc72 pc72.length) := by unfold tst; intros; kernel_rfl
theorem bent_72 (r0 r1 : C) (w0 : Option W) : (pairs pc72 pc72.length).map (fun pk => (sSeq p3_law p4_law) (rhoL w0 pk.1 pk.2 none) [r0, r1]) = (pairs pc72 pc72.length).map fun pk => RS.nx (rhoL w0 pk.1 pk.2 (some (.d (.lst (bentN pk.1 pk.2))))) [r0, r1] := by kernel_rfl
theorem rest_72 (r0 r1 : C) (w0 w3 w4 w5 w6 : Option W) : restL [w0, some (.r 1), some (.d (pieceD pc72)), w3, w4, w5, w6, none, none, none, none, none, none, none, none, none] [r0, r1] = RS.nx [w0, some (.r 1), some (.d (pieceD pc72)), w3, w4, w5, w6, some (.d (.bl false)), some (.d (.int (highN pc72))), some (.d (.int (wideN pc72))), none, none, none, none, none, none] [r0, r1] := by kernel_rfl
theorem com_73 : tst (commonV pc73) := by unfold tst; intros; kernel_rfl
theorem cut_73 : tst (cutsV pc73 pc73.length) := by unfold tst; intros; kernel_rfl
theorem bent_73 (r0 r1 : C) (w0 : Option W) : (pairs pc73 pc73.length).map (fun pk => (sSeq p3_law p4_law) (rhoL w0 pk.1 pk.2 none) [r0, r1]) = (pairs pc73 pc73.length).map fun pk => RS.nx (rhoL w0 pk.1 pk.2 (some (.d (.lst (bentN pk.1 pk.2))))) [r0, r1] := by kernel_rfl
theorem rest_73 (r0 r1 : C) (w0 w3 w4 w5 w6 : Option W) : restL [w0, some (.r 1), some (.d (pieceD pc73)), w3, w4, w5, w6, none, none, none, none, none, none, none, none, none] [r0, r1] = RS.nx [w0, some (.r 1), some (.d (pieceD pc73)), w3, w4, w5, w6, some (.d (.bl false)), some (.d (.int (highN pc73))), some (.d (.int (wideN pc73))), none, none, none, none, none, none] [r0, r1] := by kernel_rfl
theorem com_74 : tst (commonV pc74) := by unfold tst; intros; kernel_rfl
theorem cut_74 : tst (cutsV pc74 pc74.length) := by unfold tst; intros; kernel_rfl
theorem bent_74 (r0 r1 : C) (w0 : Option W) : (pairs pc74 pc74.length).map (fun pk => (sSeq p3_law p4_law) (rhoL w0 pk.1 pk.2 none) [r0, r1]) = (pairs pc74 pc74.length).map fun pk => RS.nx (rhoL w0 pk.1 pk.2 (some (.d (.lst (bentN pk.1 pk.2))))) [r0, r1] := by kernel_rfl
theorem rest_74 (r0 r1 : C) (w0 w3 w4 w5 w6 : Option W) : restL [w0, some (.r 1), some (.d (pieceD pc74)), w3, w4, w5, w6, none, none, none, none, none, none, none, none, none] [r0, r1] = RS.nx [w0, some (.r 1), some (.d (pieceD pc74)), w3, w4, w5, w6, some (.d (.bl false)), some (.d (.int (highN pc74))), some (.d (.int (wideN pc74))), none, none, none, none, none, none] [r0, r1] := by kernel_rfl
theorem com_75 : tst (commonV pc75) := by unfold tst; intros; kernel_rfl
theorem cut_75 : tst (cutsV pc75 pc75.length) := by unfold tst; intros; kernel_rfl
theorem bent_75 (r0 r1 : C) (w0 : Option W) : (pairs pc75 pc75.length).map (fun pk => (sSeq p3_law p4_law) (rhoL w0 pk.1 pk.2 none) [r0, r1]) = (pairs pc75 pc75.length).map fun pk => RS.nx (rhoL w0 pk.1 pk.2 (some (.d (.lst (bentN pk.1 pk.2))))) [r0, r1] := by kernel_rfl
theorem rest_75 (r0 r1 : C) (w0 w3 w4 w5 w6 : Option W) : restL [w0, some (.r 1), some (.d (pieceD pc75)), w3, w4, w5, w6, none, none, none, none, none, none, none, none, none] [r0, r1] = RS.nx [w0, some (.r 1), some (.d (pieceD pc75)), w3, w4, w5, w6, some (.d (.bl false)), some (.d (.int (highN pc75))), some (.d (.int (wideN pc75))), none, none, none, none, none, none] [r0, r1] := by kernel_rfl
theorem com_76 : tst (commonV pc76) := by unfold tst; intros; kernel_rfl
theorem cut_76 : tst (cutsV pc76 pc76.length) := by unfold tst; intros; kernel_rfl
theorem bent_76 (r0 r1 : C) (w0 : Option W) : (pairs pc76 pc76.length).map (fun pk => (sSeq p3_law p4_law) (rhoL w0 pk.1 pk.2 none) [r0, r1]) = (pairs pc76 pc76.length).map fun pk => RS.nx (rhoL w0 pk.1 pk.2 (some (.d (.lst (bentN pk.1 pk.2))))) [r0, r1] := by kernel_rfl
theorem rest_76 (r0 r1 : C) (w0 w3 w4 w5 w6 : Option W) : restL [w0, some (.r 1), some (.d (pieceD pc76)), w3, w4, w5, w6, none, none, none, none, none, none, none, none, none] [r0, r1] = RS.nx [w0, some (.r 1), some (.d (pieceD pc76)), w3, w4, w5, w6, some (.d (.bl false)), some (.d (.int (highN pc76))), some (.d (.int (wideN pc76))), none, none, none, none, none, none] [r0, r1] := by kernel_rfl
theorem com_77 : tst (commonV pc77) := by unfold tst; intros; kernel_rfl
theorem cut_77 : tst (cutsV pc77 pc77.length) := by unfold tst; intros; kernel_rfl
theorem bent_77 (r0 r1 : C) (w0 : Option W) : (pairs pc77 pc77.length).map (fun pk => (sSeq p3_law p4_law) (rhoL w0 pk.1 pk.2 none) [r0, r1]) = (pairs pc77 pc77.length).map fun pk => RS.nx (rhoL w0 pk.1 pk.2 (some (.d (.lst (bentN pk.1 pk.2))))) [r0, r1] := by kernel_rfl
theorem rest_77 (r0 r1 : C) (w0 w3 w4 w5 w6 : Option W) : restL [w0, some (.r 1), some (.d (pieceD pc77)), w3, w4, w5, w6, none, none, none, none, none, none, none, none, none] [r0, r1] = RS.nx [w0, some (.r 1), some (.d (pieceD pc77)), w3, w4, w5, w6, some (.d (.bl false)), some (.d (.int (highN pc77))), some (.d (.int (wideN pc77))), none, none, none, none, none, none] [r0, r1] := by kernel_rfl
theorem com_78 : tst (commonV pc78) := by unfold tst; intros; kernel_rfl
theorem cut_78 : tst (cutsV pc78 pc78.length) := by unfold tst; intros; kernel_rfl
theorem bent_78 (r0 r1 : C) (w0 : Option W) : (pairs pc78 pc78.length).map (fun pk => (sSeq p3_law p4_law) (rhoL w0 pk.1 pk.2 none) [r0, r1]) = (pairs pc78 pc78.length).map fun pk => RS.nx (rhoL w0 pk.1 pk.2 (some (.d (.lst (bentN pk.1 pk.2))))) [r0, r1] := by kernel_rfl
theorem rest_78 (r0 r1 : C) (w0 w3 w4 w5 w6 : Option W) : restL [w0, some (.r 1), some (.d (pieceD pc78)), w3, w4, w5, w6, none, none, none, none, none, none, none, none, none] [r0, r1] = RS.nx [w0, some (.r 1), some (.d (pieceD pc78)), w3, w4, w5, w6, some (.d (.bl false)), some (.d (.int (highN pc78))), some (.d (.int (wideN pc78))), none, none, none, none, none, none] [r0, r1] := by kernel_rfl
theorem com_79 : tst (commonV pc79) := by unfold tst; intros; kernel_rfl
theorem cut_79 : tst (cutsV pc79 pc79.length) := by unfold tst; intros; kernel_rfl
theorem bent_79 (r0 r1 : C) (w0 : Option W) : (pairs pc79 pc79.length).map (fun pk => (sSeq p3_law p4_law) (rhoL w0 pk.1 pk.2 none) [r0, r1]) = (pairs pc79 pc79.length).map fun pk => RS.nx (rhoL w0 pk.1 pk.2 (some (.d (.lst (bentN pk.1 pk.2))))) [r0, r1] := by kernel_rfl
theorem rest_79 (r0 r1 : C) (w0 w3 w4 w5 w6 : Option W) : restL [w0, some (.r 1), some (.d (pieceD pc79)), w3, w4, w5, w6, none, none, none, none, none, none, none, none, none] [r0, r1] = RS.nx [w0, some (.r 1), some (.d (pieceD pc79)), w3, w4, w5, w6, some (.d (.bl false)), some (.d (.int (highN pc79))), some (.d (.int (wideN pc79))), none, none, none, none, none, none] [r0, r1] := by kernel_rfl
theorem com_80 : tst (commonV pc80) := by unfold tst; intros; kernel_rfl
theorem cut_80 : tst (cutsV pc80 pc80.length) := by unfold tst; intros; kernel_rfl
theorem bent_80 (r0 r1 : C) (w0 : Option W) : (pairs pc80 pc80.length).map (fun pk => (sSeq p3_law p4_law) (rhoL w0 pk.1 pk.2 none) [r0, r1]) = (pairs pc80 pc80.length).map fun pk => RS.nx (rhoL w0 pk.1 pk.2 (some (.d (.lst (bentN pk.1 pk.2))))) [r0, r1] := by kernel_rfl
theorem rest_80 (r0 r1 : C) (w0 w3 w4 w5 w6 : Option W) : restL [w0, some (.r 1), some (.d (pieceD pc80)), w3, w4, w5, w6, none, none, none, none, none, none, none, none, none] [r0, r1] = RS.nx [w0, some (.r 1), some (.d (pieceD pc80)), w3, w4, w5, w6, some (.d (.bl false)), some (.d (.int (highN pc80))), some (.d (.int (wideN pc80))), none, none, none, none, none, none] [r0, r1] := by kernel_rfl
theorem com_81 : tst (commonV pc81) := by unfold tst; intros; kernel_rfl
theorem cut_81 : tst (cutsV pc81 pc81.length) := by unfold tst; intros; kernel_rfl
theorem bent_81 (r0 r1 : C) (w0 : Option W) : (pairs pc81 pc81.length).map (fun pk => (sSeq p3_law p4_law) (rhoL w0 pk.1 pk.2 none) [r0, r1]) = (pairs pc81 pc81.length).map fun pk => RS.nx (rhoL w0 pk.1 pk.2 (some (.d (.lst (bentN pk.1 pk.2))))) [r0, r1] := by kernel_rfl
theorem rest_81 (r0 r1 : C) (w0 w3 w4 w5 w6 : Option W) : restL [w0, some (.r 1), some (.d (pieceD pc81)), w3, w4, w5, w6, none, none, none, none, none, none, none, none, none] [r0, r1] = RS.nx [w0, some (.r 1), some (.d (pieceD pc81)), w3, w4, w5, w6, some (.d (.bl false)), some (.d (.int (highN pc81))), some (.d (.int (wideN pc81))), none, none, none, none, none, none] [r0, r1] := by kernel_rfl
theorem com_82 : tst (commonV pc82) := by unfold tst; intros; kernel_rfl
theorem cut_82 : tst (cutsV pc82 pc82.length) := by unfold tst; intros; kernel_rfl
theorem bent_82 (r0 r1 : C) (w0 : Option W) : (pairs pc82 pc82.length).map (fun pk => (sSeq p3_law p4_law) (rhoL w0 pk.1 pk.2 none) [r0, r1]) = (pairs pc82 pc82.length).map fun pk => RS.nx (rhoL w0 pk.1 pk.2 (some (.d (.lst (bentN pk.1 pk.2))))) [r0, r1] := by kernel_rfl
theorem rest_82 (r0 r1 : C) (w0 w3 w4 w5 w6 : Option W) : restL [w0, some (.r 1), some (.d (pieceD pc82)), w3, w4, w5, w6, none, none, none, none, none, none, none, none, none] [r0, r1] = RS.nx [w0, some (.r 1), some (.d (pieceD pc82)), w3, w4, w5, w6, some (.d (.bl false)), some (.d (.int (highN pc82))), some (.d (.int (wideN pc82))), none, none, none, none, none, none] [r0, r1] := by kernel_rfl
theorem com_83 : tst (commonV pc83) := by unfold tst; intros; kernel_rfl
theorem cut_83 : tst (cutsV pc83 pc83.length) := by unfold tst; intros; kernel_rfl
theorem bent_83 (r0 r1 : C) (w0 : Option W) : (pairs pc83 pc83.length).map (fun pk => (sSeq p3_law p4_law) (rhoL w0 pk.1 pk.2 none) [r0, r1]) = (pairs pc83 pc83.length).map fun pk => RS.nx (rhoL w0 pk.1 pk.2 (some (.d (.lst (bentN pk.1 pk.2))))) [r0, r1] := by kernel_rfl
theorem rest_83 (r0 r1 : C) (w0 w3 w4 w5 w6 : Option W) : restL [w0, some (.r 1), some (.d (pieceD pc83)), w3, w4, w5, w6, none, none, none, none, none, none, none, none, none] [r0, r1] = RS.nx [w0, some (.r 1), some (.d (pieceD pc83)), w3, w4, w5, w6, some (.d (.bl false)), some (.d (.int (highN pc83))), some (.d (.int (wideN pc83))), none, none, none, none, none, none] [r0, r1] := by kernel_rfl
theorem com_84 : tst (commonV pc84) := by unfold tst; intros; kernel_rfl
theorem cut_84 : tst (cutsV pc84 pc84.length) := by unfold tst; intros; kernel_rfl
theorem bent_84 (r0 r1 : C) (w0 : Option W) : (pairs pc84 pc84.length).map (fun pk => (sSeq p3_law p4_law) (rhoL w0 pk.1 pk.2 none) [r0, r1]) = (pairs pc84 pc84.length).map fun pk => RS.nx (rhoL w0 pk.1 pk.2 (some (.d (.lst (bentN pk.1 pk.2))))) [r0, r1] := by kernel_rfl
theorem rest_84 (r0 r1 : C) (w0 w3 w4 w5 w6 : Option W) : restL [w0, some (.r 1), some (.d (pieceD pc84)), w3, w4, w5, w6, none, none, none, none, none, none, none, none, none] [r0, r1] = RS.nx [w0, some (.r 1), some (.d (pieceD pc84)), w3, w4, w5, w6, some (.d (.bl false)), some (.d (.int (highN pc84))), some (.d (.int (wideN pc84))), none, none, none, none, none, none] [r0, r1] := by kernel_rfl
theorem com_85 : tst (commonV pc85) := by unfold tst; intros; kernel_rfl
theorem cut_85 : tst (cutsV pc85 pc85.length) := by unfold tst; intros; kernel_rfl
theorem bent_85 (r0 r1 : C) (w0 : Option W) : (pairs pc85 pc85.length).map (fun pk => (sSeq p3_law p4_law) (rhoL w0 pk.1 pk.2 none) [r0, r1]) = (pairs pc85 pc85.length).map fun pk => RS.nx (rhoL w0 pk.1 pk.2 (some (.d (.lst (bentN pk.1 pk.2))))) [r0, r1] := by kernel_rfl
theorem rest_85 (r0 r1 : C) (w0 w3 w4 w5 w6 : Option W) : restL [w0, some (.r 1), some (.d (pieceD pc85)), w3, w4, w5, w6, none, none, none, none, none, none, none, none, none] [r0, r1] = RS.nx [w0, some (.r 1), some (.d (pieceD pc85)), w3, w4, w5, w6, some (.d (.bl false)), some (.d (.int (highN pc85))), some (.d (.int (wideN pc85))), none, none, none, none, none, none] [r0, r1] := by kernel_rfl
theorem com_86 : tst (commonV pc86) := by unfold tst; intros; kernel_rfl
theorem cut_86 : tst (cutsV pc86 pc86.length) := by unfold tst; intros; kernel_rfl
theorem bent_86 (r0 r1 : C) (w0 : Option W) : (pairs pc86 pc86.length).map (fun pk => (sSeq p3_law p4_law) (rhoL w0 pk.1 pk.2 none) [r0, r1]) = (pairs pc86 pc86.length).map fun pk => RS.nx (rhoL w0 pk.1 pk.2 (some (.d (.lst (bentN pk.1 pk.2))))) [r0, r1] := by kernel_rfl
theorem rest_86 (r0 r1 : C) (w0 w3 w4 w5 w6 : Option W) : restL [w0, some (.r 1), some (.d (pieceD pc86)), w3, w4, w5, w6, none, none, none, none, none, none, none, none, none] [r0, r1] = RS.nx [w0, some (.r 1), some (.d (pieceD pc86)), w3, w4, w5, w6, some (.d (.bl false)), some (.d (.int (highN pc86))), some (.d (.int (wideN pc86))), none, none, none, none, none, none] [r0, r1] := by kernel_rfl
theorem com_87 : tst (commonV pc87) := by unfold tst; intros; kernel_rfl
theorem cut_87 : tst (cutsV pc87 pc87.length) := by unfold tst; intros; kernel_rfl
theorem bent_87 (r0 r1 : C) (w0 : Option W) : (pairs pc87 pc87.length).map (fun pk => (sSeq p3_law p4_law) (rhoL w0 pk.1 pk.2 none) [r0, r1]) = (pairs pc87 pc87.length).map fun pk => RS.nx (rhoL w0 pk.1 pk.2 (some (.d (.lst (bentN pk.1 pk.2))))) [r0, r1] := by kernel_rfl
theorem rest_87 (r0 r1 : C) (w0 w3 w4 w5 w6 : Option W) : restL [w0, some (.r 1), some (.d (pieceD pc87)), w3, w4, w5, w6, none, none, none, none, none, none, none, none, none] [r0, r1] = RS.nx [w0, some (.r 1), some (.d (pieceD pc87)), w3, w4, w5, w6, some (.d (.bl false)), some (.d (.int (highN pc87))), some (.d (.int (wideN pc87))), none, none, none, none, none, none] [r0, r1] := by kernel_rfl
theorem com_88 : tst (commonV pc88) := by unfold tst; intros; kernel_rfl
theorem cut_88 : tst (cutsV pc88 pc88.length) := by unfold tst; intros; kernel_rfl
theorem bent_88 (r0 r1 : C) (w0 : Option W) : (pairs pc88 pc88.length).map (fun pk => (sSeq p3_law p4_law) (rhoL w0 pk.1 pk.2 none) [r0, r1]) = (pairs pc88 pc88.length).map fun pk => RS.nx (rhoL w0 pk.1 pk.2 (some (.d (.lst (bentN pk.1 pk.2))))) [r0, r1] := by kernel_rfl
theorem rest_88 (r0 r1 : C) (w0 w3 w4 w5 w6 : Option W) : restL [w0, some (.r 1), some (.d (pieceD pc88)), w3, w4, w5, w6, none, none, none, none, none, none, none, none, none] [r0, r1] = RS.nx [w0, some (.r 1), some (.d (pieceD pc88)), w3, w4, w5, w6, some (.d (.bl false)), some (.d (.int (highN pc88))), some (.d (.int (wideN pc88))), none, none, none, none, none, none] [r0, r1] := by kernel_rfl
theorem com_89 : tst (commonV pc89) := by unfold tst; intros; kernel_rfl
theorem cut_89 : tst (cutsV pc89 pc89.length) := by unfold tst; intros; kernel_rfl
theorem bent_89 (r0 r1 : C) (w0 : Option W) : (pairs pc89 pc89.length).map (fun pk => (sSeq p3_law p4_law) (rhoL w0 pk.1 pk.2 none) [r0, r1]) = (pairs pc89 pc89.length).map fun pk => RS.nx (rhoL w0 pk.1 pk.2 (some (.d (.lst (bentN pk.1 pk.2))))) [r0, r1] := by kernel_rfl
theorem rest_89 (r0 r1 : C) (w0 w3 w4 w5 w6 : Option W) : restL [w0, some (.r 1), some (.d (pieceD pc89)), w3, w4, w5, w6, none, none, none, none, none, none, none, none, none] [r0, r1] = RS.nx [w0, some (.r 1), some (.d (pieceD pc89)), w3, w4, w5, w6, some (.d (.bl false)), some (.d (.int (highN pc89))), some (.d (.int (wideN pc89))), none, none, none, none, none, none] [r0, r1] := by kernel_rfl
theorem com_90 : tst (commonV pc90) := by unfold tst; intros; kernel_rfl
theorem cut_90 : tst (cutsV pc90 pc90.length) := by unfold tst; intros; kernel_rfl
theorem bent_90 (r0 r1 : C) (w0 : Option W) : (pairs pc90 pc90.length).map (fun pk => (sSeq p3_law p4_law) (rhoL w0 pk.1 pk.2 none) [r0, r1]) = (pairs pc90 pc90.length).map fun pk => RS.nx (rhoL w0 pk.1 pk.2 (some (.d (.lst (bentN pk.1 pk.2))))) [r0, r1] := by kernel_rfl
theorem rest_90 (r0 r1 : C) (w0 w3 w4 w5 w6 : Option W) : restL [w0, some (.r 1), some (.d (pieceD pc90)), w3, w4, w5, w6, none, none, none, none, none, none, none, none, none] [r0, r1] = RS.nx [w0, some (.r 1), some (.d (pieceD pc90)), w3, w4, w5, w6, some (.d (.bl false)), some (.d (.int (highN pc90))), some (.d (.int (wideN pc90))), none, none, none, none, none, none] [r0, r1] := by kernel_rfl
theorem com_at : ∀ p ∈ PS, tst (commonV p) := (List.forall_mem_cons.mpr ⟨com_0, (List.forall_mem_cons.mpr ⟨com_1, (List.forall_mem_cons.mpr ⟨com_2, (List.forall_mem_cons.mpr ⟨com_3, (List.forall_mem_cons.mpr ⟨com_4, (List.forall_mem_cons.mpr ⟨com_5, (List.forall_mem_cons.mpr ⟨com_6, (List.forall_mem_cons.mpr ⟨com_7, (List.forall_mem_cons.mpr ⟨com_8, (List.forall_mem_cons.mpr ⟨com_9, (List.forall_mem_cons.mpr ⟨com_10, (List.forall_mem_cons.mpr ⟨com_11, (List.forall_mem_cons.mpr ⟨com_12, (List.forall_mem_cons.mpr ⟨com_13, (List.forall_mem_cons.mpr ⟨com_14, (List.forall_mem_cons.mpr ⟨com_15, (List.forall_mem_cons.mpr ⟨com_16, (List.forall_mem_cons.mpr ⟨com_17, (List.forall_mem_cons.mpr ⟨com_18, (List.forall_mem_cons.mpr ⟨com_19, (List.forall_mem_cons.mpr ⟨com_20, (List.forall_mem_cons.mpr ⟨com_21, (List.forall_mem_cons.mpr ⟨com_22, (List.forall_mem_cons.mpr ⟨com_23, (List.forall_mem_cons.mpr ⟨com_24, (List.forall_mem_cons.mpr ⟨com_25, (List.forall_mem_cons.mpr ⟨com_26, (List.forall_mem_cons.mpr ⟨com_27, (List.forall_mem_cons.mpr ⟨com_28, (List.forall_mem_cons.mpr ⟨com_29, (List.forall_mem_cons.mpr ⟨com_30, (List.forall_mem_cons.mpr ⟨com_31, (List.forall_mem_cons.mpr ⟨com_32, (List.forall_mem_cons.mpr ⟨com_33, (List.forall_mem_cons.mpr ⟨com_34, (List.forall_mem_cons.mpr ⟨com_35, (List.forall_mem_cons.mpr ⟨com_36, (List.forall_mem_cons.mpr ⟨com_37, (List.forall_mem_cons.mpr ⟨com_38, (List.forall_mem_cons.mpr ⟨com_39, (List.forall_mem_cons.mpr ⟨com_40, (List.forall_mem_cons.mpr ⟨com_41, (List.forall_mem_cons.mpr ⟨com_42, (List.forall_mem_cons.mpr ⟨com_43, (List.forall_mem_cons.mpr ⟨com_44, (List.forall_mem_cons.mpr ⟨com_45, (List.forall_mem_cons.mpr ⟨com_46, (List.forall_mem_cons.mpr ⟨com_47, (List.forall_mem_cons.mpr ⟨com_48, (List.forall_mem_cons.mpr ⟨com_49, (List.forall_mem_cons.mpr ⟨com_50, (List.forall_mem_cons.mpr ⟨com_51, (List.forall_mem_cons.mpr ⟨com_52, (List.forall_mem_cons.mpr ⟨com_53, (List.forall_mem_cons.mpr ⟨com_54, (List.forall_mem_cons.mpr ⟨com_55, (List.forall_mem_cons.mpr ⟨com_56, (List.forall_mem_cons.mpr ⟨com_57, (List.forall_mem_cons.mpr ⟨com_58, (List.forall_mem_cons.mpr ⟨com_59, (List.forall_mem_cons.mpr ⟨com_60, (List.forall_mem_cons.mpr ⟨com_61, (List.forall_mem_cons.mpr ⟨com_62, (List.forall_mem_cons.mpr ⟨com_63, (List.forall_mem_cons.mpr ⟨com_64, (List.forall_mem_cons.mpr ⟨com_65, (List.forall_mem_cons.mpr ⟨com_66, (List.forall_mem_cons.mpr ⟨com_67, (List.forall_mem_cons.mpr ⟨com_68, (List.forall_mem_cons.mpr ⟨com_69, (List.forall_mem_cons.mpr ⟨com_70, (List.forall_mem_cons.mpr ⟨com_71, (List.forall_mem_cons.mpr ⟨com_72, (List.forall_mem_cons.mpr ⟨com_73, (List.forall_mem_cons.mpr ⟨com_74, (List.forall_mem_cons.mpr ⟨com_75, (List.forall_mem_cons.mpr ⟨com_76, (List.forall_mem_cons.mpr ⟨com_77, (List.forall_mem_cons.mpr ⟨com_78, (List.forall_mem_cons.mpr ⟨com_79, (List.forall_mem_cons.mpr ⟨com_80, (List.forall_mem_cons.mpr ⟨com_81, (List.forall_mem_cons.mpr ⟨com_82, (List.forall_mem_cons.mpr ⟨com_83, (List.forall_mem_cons.mpr ⟨com_84, (List.forall_mem_cons.mpr ⟨com_85, (List.forall_mem_cons.mpr ⟨com_86, (List.forall_mem_cons.mpr ⟨com_87, (List.forall_mem_cons.mpr ⟨com_88, (List.forall_mem_cons.mpr ⟨com_89, (List.forall_mem_cons.mpr ⟨com_90, (fun _ h => nomatch h)⟩)⟩)⟩)⟩)⟩)⟩)⟩)⟩)⟩)⟩)⟩)⟩)⟩)⟩)⟩)⟩)⟩)⟩)⟩)⟩)⟩)⟩)⟩)⟩)⟩)⟩)⟩)⟩)⟩)⟩)⟩)⟩)⟩)⟩)⟩)⟩)⟩)⟩)⟩)⟩)⟩)⟩)⟩)⟩)⟩)⟩)⟩)⟩)⟩)⟩)⟩)⟩)⟩)⟩)⟩)⟩)⟩)⟩)⟩)⟩)⟩)⟩)⟩)⟩)⟩)⟩)⟩)⟩)⟩)⟩)⟩)⟩)⟩)⟩)⟩)⟩)⟩)⟩)⟩)⟩)⟩)⟩)⟩)⟩)⟩)⟩)⟩)⟩)⟩)⟩)⟩)
theorem cut_at : ∀ p ∈ PS, tst (cutsV p p.length) := (List.forall_mem_cons.mpr ⟨cut_0, (List.forall_mem_cons.mpr ⟨cut_1, (List.forall_mem_cons.mpr ⟨cut_2, (List.forall_mem_cons.mpr ⟨cut_3, (List.forall_mem_cons.mpr ⟨cut_4, (List.forall_mem_cons.mpr ⟨cut_5, (List.forall_mem_cons.mpr ⟨cut_6, (List.forall_mem_cons.mpr ⟨cut_7, (List.forall_mem_cons.mpr ⟨cut_8, (List.forall_mem_cons.mpr ⟨cut_9, (List.forall_mem_cons.mpr ⟨cut_10, (List.forall_mem_cons.mpr ⟨cut_11, (List.forall_mem_cons.mpr ⟨cut_12, (List.forall_mem_cons.mpr ⟨cut_13, (List.forall_mem_cons.mpr ⟨cut_14, (List.forall_mem_cons.mpr ⟨cut_15, (List.forall_mem_cons.mpr ⟨cut_16, (List.forall_mem_cons.mpr ⟨cut_17, (List.forall_mem_cons.mpr ⟨cut_18, (List.forall_mem_cons.mpr ⟨cut_19, (List.forall_mem_cons.mpr ⟨cut_20, (List.forall_mem_cons.mpr ⟨cut_21, (List.forall_mem_cons.mpr ⟨cut_22, (List.forall_mem_cons.mpr ⟨cut_23, (List.forall_mem_cons.mpr ⟨cut_24, (List.forall_mem_cons.mpr ⟨cut_25, (List.forall_mem_cons.mpr ⟨cut_26, (List.forall_mem_cons.mpr ⟨cut_27, (List.forall_mem_cons.mpr ⟨cut_28, (List.forall_mem_cons.mpr ⟨cut_29, (List.forall_mem_cons.mpr ⟨cut_30, (List.forall_mem_cons.mpr ⟨cut_31, (List.forall_mem_cons.mpr ⟨cut_32, (List.forall_mem_cons.mpr ⟨cut_33, (List.forall_mem_cons.mpr ⟨cut_34, (List.forall_mem_cons.mpr ⟨cut_35, (List.forall_mem_cons.mpr ⟨cut_36, (List.forall_mem_cons.mpr ⟨cut_37, (List.forall_mem_cons.mpr ⟨cut_38, (List.forall_mem_cons.mpr ⟨cut_39, (List.forall_mem_cons.mpr ⟨cut_40, (List.forall_mem_cons.mpr ⟨cut_41, (List.forall_mem_cons.mpr ⟨cut_42, (List.forall_mem_cons.mpr ⟨cut_43, (List.forall_mem_cons.mpr ⟨cut_44, (List.forall_mem_cons.mpr ⟨cut_45, (List.forall_mem_cons.mpr ⟨cut_46, (List.forall_mem_cons.mpr ⟨cut_47, (List.forall_mem_cons.mpr ⟨cut_48, (List.forall_mem_cons.mpr ⟨cut_49, (List.forall_mem_cons.mpr ⟨cut_50, (List.forall_mem_cons.mpr ⟨cut_51, (List.forall_mem_cons.mpr ⟨cut_52, (List.forall_mem_cons.mpr ⟨cut_53, (List.forall_mem_cons.mpr ⟨cut_54, (List.forall_mem_cons.mpr ⟨cut_55, (List.forall_mem_cons.mpr ⟨cut_56, (List.forall_mem_cons.mpr ⟨cut_57, (List.forall_mem_cons.mpr ⟨cut_58, (List.forall_mem_cons.mpr ⟨cut_59, (List.forall_mem_cons.mpr ⟨cut_60, (List.forall_mem_cons.mpr ⟨cut_61, (List.forall_mem_cons.mpr ⟨cut_62, (List.forall_mem_cons.mpr ⟨cut_63, (List.forall_mem_cons.mpr ⟨cut_64, (List.forall_mem_cons.mpr ⟨cut_65, (List.forall_mem_cons.mpr ⟨cut_66, (List.forall_mem_cons.mpr ⟨cut_67, (List.forall_mem_cons.mpr ⟨cut_68, (List.forall_mem_cons.mpr ⟨cut_69, (List.forall_mem_cons.mpr ⟨cut_70, (List.forall_mem_cons.mpr ⟨cut_71, (List.forall_mem_cons.mpr ⟨cut_72, (List.forall_mem_cons.mpr ⟨cut_73, (List.forall_mem_cons.mpr ⟨cut_74, (List.forall_mem_cons.mpr ⟨cut_75, (List.forall_mem_cons.mpr ⟨cut_76, (List.forall_mem_cons.mpr ⟨cut_77, (List.forall_mem_cons.mpr ⟨cut_78, (List.forall_mem_cons.mpr ⟨cut_79, (List.forall_mem_cons.mpr ⟨cut_80, (List.forall_mem_cons.mpr ⟨cut_81, (List.forall_mem_cons.mpr ⟨cut_82, (List.forall_mem_cons.mpr ⟨cut_83, (List.forall_mem_cons.mpr ⟨cut_84, (List.forall_mem_cons.mpr ⟨cut_85, (List.forall_mem_cons.mpr ⟨cut_86, (List.forall_mem_cons.mpr ⟨cut_87, (List.forall_mem_cons.mpr ⟨cut_88, (List.forall_mem_cons.mpr ⟨cut_89, (List.forall_mem_cons.mpr ⟨cut_90, (fun _ h => nomatch h)⟩)⟩)⟩)⟩)⟩)⟩)⟩)⟩)⟩)⟩)⟩)⟩)⟩)⟩)⟩)⟩)⟩)⟩)⟩)⟩)⟩)⟩)⟩)⟩)⟩)⟩)⟩)⟩)⟩)⟩)⟩)⟩)⟩)⟩)⟩)⟩)⟩)⟩)⟩)⟩)⟩)⟩)⟩)⟩)⟩)⟩)⟩)⟩)⟩)⟩)⟩)⟩)⟩)⟩)⟩)⟩)⟩)⟩)⟩)⟩)⟩)⟩)⟩)⟩)⟩)⟩)⟩)⟩)⟩)⟩)⟩)⟩)⟩)⟩)⟩)⟩)⟩)⟩)⟩)⟩)⟩)⟩)⟩)⟩)⟩)⟩)⟩)⟩)⟩)⟩)⟩)
theorem bent_at (r0 r1 : C) (w0 : Option W) : ∀ p ∈ PS, (pairs p p.length).map (fun pk => (sSeq p3_law p4_law) (rhoL w0 pk.1 pk.2 none) [r0, r1]) = (pairs p p.length).map fun pk => RS.nx (rhoL w0 pk.1 pk.2 (some (.d (.lst (bentN pk.1 pk.2))))) [r0, r1] := (List.forall_mem_cons.mpr ⟨(bent_0 r0 r1 w0), (List.forall_mem_cons.mpr ⟨(bent_1 r0 r1 w0), (List.forall_mem_cons.mpr ⟨(bent_2 r0 r1 w0), (List.forall_mem_cons.mpr ⟨(bent_3 r0 r1 w0), (List.forall_mem_cons.mpr ⟨(bent_4 r0 r1 w0), (List.forall_mem_cons.mpr ⟨(bent_5 r0 r1 w0), (List.forall_mem_cons.mpr ⟨(bent_6 r0 r1 w0), (List.forall_mem_cons.mpr ⟨(bent_7 r0 r1 w0), (List.forall_mem_cons.mpr ⟨(bent_8 r0 r1 w0), (List.forall_mem_cons.mpr ⟨(bent_9 r0 r1 w0), (List.forall_mem_cons.mpr ⟨(bent_10 r0 r1 w0), (List.forall_mem_cons.mpr ⟨(bent_11 r0 r1 w0), (List.forall_mem_cons.mpr ⟨(bent_12 r0 r1 w0), (List.forall_mem_cons.mpr ⟨(bent_13 r0 r1 w0), (List.forall_mem_cons.mpr ⟨(bent_14 r0 r1 w0), (List.forall_mem_cons.mpr ⟨(bent_15 r0 r1 w0), (List.forall_mem_cons.mpr ⟨(bent_16 r0 r1 w0), (List.forall_mem_cons.mpr ⟨(bent_17 r0 r1 w0), (List.forall_mem_cons.mpr ⟨(bent_18 r0 r1 w0), (List.forall_mem_cons.mpr ⟨(bent_19 r0 r1 w0), (List.forall_mem_cons.mpr ⟨(bent_20 r0 r1 w0), (List.forall_mem_cons.mpr ⟨(bent_21 r0 r1 w0), (List.forall_mem_cons.mpr ⟨(bent_22 r0 r1 w0), (List.forall_mem_cons.mpr ⟨(bent_23 r0 r1 w0), (List.forall_mem_cons.mpr ⟨(bent_24 r0 r1 w0), (List.forall_mem_cons.mpr ⟨(bent_25 r0 r1 w0), (List.forall_mem_cons.mpr ⟨(bent_26 r0 r1 w0), (List.forall_mem_cons.mpr ⟨(bent_27 r0 r1 w0), (List.forall_mem_cons.mpr ⟨(bent_28 r0 r1 w0), (List.forall_mem_cons.mpr ⟨(bent_29 r0 r1 w0), (List.forall_mem_cons.mpr ⟨(bent_30 r0 r1 w0), (List.forall_mem_cons.mpr ⟨(bent_31 r0 r1 w0), (List.forall_mem_cons.mpr ⟨(bent_32 r0 r1 w0), (List.forall_mem_cons.mpr ⟨(bent_33 r0 r1 w0), (List.forall_mem_cons.mpr ⟨(bent_34 r0 r1 w0), (List.forall_mem_cons.mpr ⟨(bent_35 r0 r1 w0), (List.forall_mem_cons.mpr ⟨(bent_36 r0 r1 w0), (List.forall_mem_cons.mpr ⟨(bent_37 r0 r1 w0), (List.forall_mem_cons.mpr ⟨(bent_38 r0 r1 w0), (List.forall_mem_cons.mpr ⟨(bent_39 r0 r1 w0), (List.forall_mem_cons.mpr ⟨(bent_40 r0 r1 w0), (List.forall_mem_cons.mpr ⟨(bent_41 r0 r1 w0), (List.forall_mem_cons.mpr ⟨(bent_42 r0 r1 w0), (List.forall_mem_cons.mpr ⟨(bent_43 r0 r1 w0), (List.forall_mem_cons.mpr ⟨(bent_44 r0 r1 w0), (List.forall_mem_cons.mpr ⟨(bent_45 r0 r1 w0), (List.forall_mem_cons.mpr ⟨(bent_46 r0 r1 w0), (List.forall_mem_cons.mpr ⟨(bent_47 r0 r1 w0), (List.forall_mem_cons.mpr ⟨(bent_48 r0 r1 w0), (List.forall_mem_cons.mpr ⟨(bent_49 r0 r1 w0), (List.forall_mem_cons.mpr ⟨(bent_50 r0 r1 w0), (List.forall_mem_cons.mpr ⟨(bent_51 r0 r1 w0), (List.forall_mem_cons.mpr ⟨(bent_52 r0 r1 w0), (List.forall_mem_cons.mpr ⟨(bent_53 r0 r1 w0), (List.forall_mem_cons.mpr ⟨(bent_54 r0 r1 w0), (List.forall_mem_cons.mpr ⟨(bent_55 r0 r1 w0), (List.forall_mem_cons.mpr ⟨(bent_56 r0 r1 w0), (List.forall_mem_cons.mpr ⟨(bent_57 r0 r1 w0), (List.forall_mem_cons.mpr ⟨(bent_58 r0 r1 w0), (List.forall_mem_cons.mpr ⟨(bent_59 r0 r1 w0), (List.forall_mem_cons.mpr ⟨(bent_60 r0 r1 w0), (List.forall_mem_cons.mpr ⟨(bent_61 r0 r1 w0), (List.forall_mem_cons.mpr ⟨(bent_62 r0 r1 w0), (List.forall_mem_cons.mpr ⟨(bent_63 r0 r1 w0), (List.forall_mem_cons.mpr ⟨(bent_64 r0 r1 w0), (List.forall_mem_cons.mpr ⟨(bent_65 r0 r1 w0), (List.forall_mem_cons.mpr ⟨(bent_66 r0 r1 w0), (List.forall_mem_cons.mpr ⟨(bent_67 r0 r1 w0), (List.forall_mem_cons.mpr ⟨(bent_68 r0 r1 w0), (List.forall_mem_cons.mpr ⟨(bent_69 r0 r1 w0), (List.forall_mem_cons.mpr ⟨(bent_70 r0 r1 w0), (List.forall_mem_cons.mpr ⟨(bent_71 r0 r1 w0), (List.forall_mem_cons.mpr ⟨(bent_72 r0 r1 w0), (List.forall_mem_cons.mpr ⟨(bent_73 r0 r1 w0), (List.forall_mem_cons.mpr ⟨(bent_74 r0 r1 w0), (List.forall_mem_cons.mpr ⟨(bent_75 r0 r1 w0), (List.forall_mem_cons.mpr ⟨(bent_76 r0 r1 w0), (List.forall_mem_cons.mpr ⟨(bent_77 r0 r1 w0), (List.forall_mem_cons.mpr ⟨(bent_78 r0 r1 w0), (List.forall_mem_cons.mpr ⟨(bent_79 r0 r1 w0), (List.forall_mem_cons.mpr ⟨(bent_80 r0 r1 w0), (List.forall_mem_cons.mpr ⟨(bent_81 r0 r1 w0), (List.forall_mem_cons.mpr ⟨(bent_82 r0 r1 w0), (List.forall_mem_cons.mpr ⟨(bent_83 r0 r1 w0), (List.forall_mem_cons.mpr ⟨(bent_84 r0 r1 w0), (List.forall_mem_cons.mpr ⟨(bent_85 r0 r1 w0), (List.forall_mem_cons.mpr ⟨(bent_86 r0 r1 w0), (List.forall_mem_cons.mpr ⟨(bent_87 r0 r1 w0), (List.forall_mem_cons.mpr ⟨(bent_88 r0 r1 w0), (List.forall_mem_cons.mpr ⟨(bent_89 r0 r1 w0), (List.forall_mem_cons.mpr ⟨(bent_90 r0 r1 w0), (fun _ h => nomatch h)⟩)⟩)⟩)⟩)⟩)⟩)⟩)⟩)⟩)⟩)⟩)⟩)⟩)⟩)⟩)⟩)⟩)⟩)⟩)⟩)⟩)⟩)⟩)⟩)⟩)⟩)⟩)⟩)⟩)⟩)⟩)⟩)⟩)⟩)⟩)⟩)⟩)⟩)⟩)⟩)⟩)⟩)⟩)⟩)⟩)⟩)⟩)⟩)⟩)⟩)⟩)⟩)⟩)⟩)⟩)⟩)⟩)⟩)⟩)⟩)⟩)⟩)⟩)⟩)⟩)⟩)⟩)⟩)⟩)⟩)⟩)⟩)⟩)⟩)⟩)⟩)⟩)⟩)⟩)⟩)⟩)⟩)⟩)⟩)⟩)⟩)⟩)⟩)⟩)⟩)⟩)
theorem rest_at (r0 r1 : C) (w0 w3 w4 w5 w6 : Option W) : ∀ p ∈ PS, restL [w0, some (.r 1), some (.d (pieceD p)), w3, w4, w5, w6, none, none, none, none, none, none, none, none, none] [r0, r1] = RS.nx [w0, some (.r 1), some (.d (pieceD p)), w3, w4, w5, w6, some (.d (.bl false)), some (.d (.int (highN p))), some (.d (.int (wideN p))), none, none, none, none, none, none] [r0, r1] := (List.forall_mem_cons.mpr ⟨(rest_0 r0 r1 w0 w3 w4 w5 w6), (List.forall_mem_cons.mpr ⟨(rest_1 r0 r1 w0 w3 w4 w5 w6), (List.forall_mem_cons.mpr ⟨(rest_2 r0 r1 w0 w3 w4 w5 w6), (List.forall_mem_cons.mpr ⟨(rest_3 r0 r1 w0 w3 w4 w5 w6), (List.forall_mem_cons.mpr ⟨(rest_4 r0 r1 w0 w3 w4 w5 w6), (List.forall_mem_cons.mpr ⟨(rest_5 r0 r1 w0 w3 w4 w5 w6), (List.forall_mem_cons.mpr ⟨(rest_6 r0 r1 w0 w3 w4 w5 w6), (List.forall_mem_cons.mpr ⟨(rest_7 r0 r1 w0 w3 w4 w5 w6), (List.forall_mem_cons.mpr ⟨(rest_8 r0 r1 w0 w3 w4 w5 w6), (List.forall_mem_cons.mpr ⟨(rest_9 r0 r1 w0 w3 w4 w5 w6), (List.forall_mem_cons.mpr ⟨(rest_10 r0 r1 w0 w3 w4 w5 w6), (List.forall_mem_cons.mpr ⟨(rest_11 r0 r1 w0 w3 w4 w5 w6), (List.forall_mem_cons.mpr ⟨(rest_12 r0 r1 w0 w3 w4 w5 w6), (List.forall_mem_cons.mpr ⟨(rest_13 r0 r1 w0 w3 w4 w5 w6), (List.forall_mem_cons.mpr ⟨(rest_14 r0 r1 w0 w3 w4 w5 w6), (List.forall_mem_cons.mpr ⟨(rest_15 r0 r1 w0 w3 w4 w5 w6), (List.forall_mem_cons.mpr ⟨(rest_16 r0 r1 w0 w3 w4 w5 w6), (List.forall_mem_cons.mpr ⟨(rest_17 r0 r1 w0 w3 w4 w5 w6), (List.forall_mem_cons.mpr ⟨(rest_18 r0 r1 w0 w3 w4 w5 w6), (List.forall_mem_cons.mpr ⟨(rest_19 r0 r1 w0 w3 w4 w5 w6), (List.forall_mem_cons.mpr ⟨(rest_20 r0 r1 w0 w3 w4 w5 w6), (List.forall_mem_cons.mpr ⟨(rest_21 r0 r1 w0 w3 w4 w5 w6), (List.forall_mem_cons.mpr ⟨(rest_22 r0 r1 w0 w3 w4 w5 w6), (List.forall_mem_cons.mpr ⟨(rest_23 r0 r1 w0 w3 w4 w5 w6), (List.forall_mem_cons.mpr ⟨(rest_24 r0 r1 w0 w3 w4 w5 w6), (List.forall_mem_cons.mpr ⟨(rest_25 r0 r1 w0 w3 w4 w5 w6), (List.forall_mem_cons.mpr ⟨(rest_26 r0 r1 w0 w3 w4 w5 w6), (List.forall_mem_cons.mpr ⟨(rest_27 r0 r1 w0 w3 w4 w5 w6), (List.forall_mem_cons.mpr ⟨(rest_28 r0 r1 w0 w3 w4 w5 w6), (List.forall_mem_cons.mpr ⟨(rest_29 r0 r1 w0 w3 w4 w5 w6), (List.forall_mem_cons.mpr ⟨(rest_30 r0 r1 w0 w3 w4 w5 w6), (List.forall_mem_cons.mpr ⟨(rest_31 r0 r1 w0 w3 w4 w5 w6), (List.forall_mem_cons.mpr ⟨(rest_32 r0 r1 w0 w3 w4 w5 w6), (List.forall_mem_cons.mpr ⟨(rest_33 r0 r1 w0 w3 w4 w5 w6), (List.forall_mem_cons.mpr ⟨(rest_34 r0 r1 w0 w3 w4 w5 w6), (List.forall_mem_cons.mpr ⟨(rest_35 r0 r1 w0 w3 w4 w5 w6), (List.forall_mem_cons.mpr ⟨(rest_36 r0 r1 w0 w3 w4 w5 w6), (List.forall_mem_cons.mpr ⟨(rest_37 r0 r1 w0 w3 w4 w5 w6), (List.forall_mem_cons.mpr ⟨(rest_38 r0 r1 w0 w3 w4 w5 w6), (List.forall_mem_cons.mpr ⟨(rest_39 r0 r1 w0 w3 w4 w5 w6), (List.forall_mem_cons.mpr ⟨(rest_40 r0 r1 w0 w3 w4 w5 w6), (List.forall_mem_cons.mpr ⟨(rest_41 r0 r1 w0 w3 w4 w5 w6), (List.forall_mem_cons.mpr ⟨(rest_42 r0 r1 w0 w3 w4 w5 w6), (List.forall_mem_cons.mpr ⟨(rest_43 r0 r1 w0 w3 w4 w5 w6), (List.forall_mem_cons.mpr ⟨(rest_44 r0 r1 w0 w3 w4 w5 w6), (List.forall_mem_cons.mpr ⟨(rest_45 r0 r1 w0 w3 w4 w5 w6), (List.forall_mem_cons.mpr ⟨(rest_46 r0 r1 w0 w3 w4 w5 w6), (List.forall_mem_cons.mpr ⟨(rest_47 r0 r1 w0 w3 w4 w5 w6), (List.forall_mem_cons.mpr ⟨(rest_48 r0 r1 w0 w3 w4 w5 w6), (List.forall_mem_cons.mpr ⟨(rest_49 r0 r1 w0 w3 w4 w5 w6), (List.forall_mem_cons.mpr ⟨(rest_50 r0 r1 w0 w3 w4 w5 w6), (List.forall_mem_cons.mpr ⟨(rest_51 r0 r1 w0 w3 w4 w5 w6), (List.forall_mem_cons.mpr ⟨(rest_52 r0 r1 w0 w3 w4 w5 w6), (List.forall_mem_cons.mpr ⟨(rest_53 r0 r1 w0 w3 w4 w5 w6), (List.forall_mem_cons.mpr ⟨(rest_54 r0 r1 w0 w3 w4 w5 w6), (List.forall_mem_cons.mpr ⟨(rest_55 r0 r1 w0 w3 w4 w5 w6), (List.forall_mem_cons.mpr ⟨(rest_56 r0 r1 w0 w3 w4 w5 w6), (List.forall_mem_cons.mpr ⟨(rest_57 r0 r1 w0 w3 w4 w5 w6), (List.forall_mem_cons.mpr ⟨(rest_58 r0 r1 w0 w3 w4 w5 w6), (List.forall_mem_cons.mpr ⟨(rest_59 r0 r1 w0 w3 w4 w5 w6), (List.forall_mem_cons.mpr ⟨(rest_60 r0 r1 w0 w3 w4 w5 w6), (List.forall_mem_cons.mpr ⟨(rest_61 r0 r1 w0 w3 w4 w5 w6), (List.forall_mem_cons.mpr ⟨(rest_62 r0 r1 w0 w3 w4 w5 w6), (List.forall_mem_cons.mpr ⟨(rest_63 r0 r1 w0 w3 w4 w5 w6), (List.forall_mem_cons.mpr ⟨(rest_64 r0 r1 w0 w3 w4 w5 w6), (List.forall_mem_cons.mpr ⟨(rest_65 r0 r1 w0 w3 w4 w5 w6), (List.forall_mem_cons.mpr ⟨(rest_66 r0 r1 w0 w3 w4 w5 w6), (List.forall_mem_cons.mpr ⟨(rest_67 r0 r1 w0 w3 w4 w5 w6), (List.forall_mem_cons.mpr ⟨(rest_68 r0 r1 w0 w3 w4 w5 w6), (List.forall_mem_cons.mpr ⟨(rest_69 r0 r1 w0 w3 w4 w5 w6), (List.forall_mem_cons.mpr ⟨(rest_70 r0 r1 w0 w3 w4 w5 w6), (List.forall_mem_cons.mpr ⟨(rest_71 r0 r1 w0 w3 w4 w5 w6), (List.forall_mem_cons.mpr ⟨(rest_72 r0 r1 w0 w3 w4 w5 w6), (List.forall_mem_cons.mpr ⟨(rest_73 r0 r1 w0 w3 w4 w5 w6), (List.forall_mem_cons.mpr ⟨(rest_74 r0 r1 w0 w3 w4 w5 w6), (List.forall_mem_cons.mpr ⟨(rest_75 r0 r1 w0 w3 w4 w5 w6), (List.forall_mem_cons.mpr ⟨(rest_76 r0 r1 w0 w3 w4 w5 w6), (List.forall_mem_cons.mpr ⟨(rest_77 r0 r1 w0 w3 w4 w5 w6), (List.forall_mem_cons.mpr ⟨(rest_78 r0 r1 w0 w3 w4 w5 w6), (List.forall_mem_cons.mpr ⟨(rest_79 r0 r1 w0 w3 w4 w5 w6), (List.forall_mem_cons.mpr ⟨(rest_80 r0 r1 w0 w3 w4 w5 w6), (List.forall_mem_cons.mpr ⟨(rest_81 r0 r1 w0 w3 w4 w5 w6), (List.forall_mem_cons.mpr ⟨(rest_82 r0 r1 w0 w3 w4 w5 w6), (List.forall_mem_cons.mpr ⟨(rest_83 r0 r1 w0 w3 w4 w5 w6), (List.forall_mem_cons.mpr ⟨(rest_84 r0 r1 w0 w3 w4 w5 w6), (List.forall_mem_cons.mpr ⟨(rest_85 r0 r1 w0 w3 w4 w5 w6), (List.forall_mem_cons.mpr ⟨(rest_86 r0 r1 w0 w3 w4 w5 w6), (List.forall_mem_cons.mpr ⟨(rest_87 r0 r1 w0 w3 w4 w5 w6), (List.forall_mem_cons.mpr ⟨(rest_88 r0 r1 w0 w3 w4 w5 w6), (List.forall_mem_cons.mpr ⟨(rest_89 r0 r1 w0 w3 w4 w5 w6), (List.forall_mem_cons.mpr ⟨(rest_90 r0 r1 w0 w3 w4 w5 w6), (fun _ h => nomatch h)⟩)⟩)⟩)⟩)⟩)⟩)⟩)⟩)⟩)⟩)⟩)⟩)⟩)⟩)⟩)⟩)⟩)⟩)⟩)⟩)⟩)⟩)⟩)⟩)⟩)⟩)⟩)⟩)⟩)⟩)⟩)⟩)⟩)⟩)⟩)⟩)⟩)⟩)⟩)⟩)⟩)⟩)⟩)⟩)⟩)⟩)⟩)⟩)⟩)⟩)⟩)⟩)⟩)⟩)⟩)⟩)⟩)⟩)⟩)⟩)⟩)⟩)⟩)⟩)⟩)⟩)⟩)⟩)⟩)⟩)⟩)⟩)⟩)⟩)⟩)⟩)⟩)⟩)⟩)⟩)⟩)⟩)⟩)⟩)⟩)⟩)⟩)⟩)⟩)⟩)⟩)
theorem many_0 (r0 r1 : C) (w0 w2 w3 w4 w5 w6 w7 w8 w9 : Option W) : p25_law [w0, some (.r 1), w2, w3, w4, w5, w6, w7, w8, w9, some (.d (.int (1 + ((0 : Nat) : Int)))), none, none, none, none, none] [r0, r1] = RS.nx [w0, some (.r 1), w2, w3, w4, w5, w6, w7, w8, w9, some (.d (.int (1 + ((0 : Nat) : Int)))), none, none, none, none, none] [r0, r1] := by kernel_rfl
theorem many_1 (r0 r1 : C) (w0 w2 w3 w4 w5 w6 w7 w8 w9 : Option W) : p25_law [w0, some (.r 1), w2, w3, w4, w5, w6, w7, w8, w9, some (.d (.int (1 + ((1 : Nat) : Int)))), none, none, none, none, none] [r0, r1] = RS.nx [w0, some (.r 1), w2, w3, w4, w5, w6, w7, w8, w9, some (.d (.int (1 + ((1 : Nat) : Int)))), none, none, none, none, none] [r0, r1] := by kernel_rfl
theorem many_2 (r0 r1 : C) (w0 w2 w3 w4 w5 w6 w7 w8 w9 : Option W) : p25_law [w0, some (.r 1), w2, w3, w4, w5, w6, w7, w8, w9, some (.d (.int (1 + ((2 : Nat) : Int)))), none, none, none, none, none] [r0, r1] = RS.nx [w0, some (.r 1), w2, w3, w4, w5, w6, w7, w8, w9, some (.d (.int (1 + ((2 : Nat) : Int)))), none, none, none, none, none] [r0, r1] := by kernel_rfl
theorem many_3 (r0 r1 : C) (w0 w2 w3 w4 w5 w6 w7 w8 w9 : Option W) : p25_law [w0, some (.r 1), w2, w3, w4, w5, w6, w7, w8, w9, some (.d (.int (1 + ((3 : Nat) : Int)))), none, none, none, none, none] [r0, r1] = RS.nx [w0, some (.r 1), w2, w3, w4, w5, w6, w7, w8, w9, some (.d (.int (1 + ((3 : Nat) : Int)))), none, none, none, none, none] [r0, r1] := by kernel_rfl
theorem many_at (r0 r1 : C) (w0 w2 w3 w4 w5 w6 w7 w8 w9 : Option W) : ∀ v : Nat, v < 5 → p25_law [w0, some (.r 1), w2, w3, w4, w5, w6, w7, w8, w9, some (.d (.int (1 + (v : Int)))), none, none, none, none, none] [r0, r1] = RS.nx [w0, some (.r 1), w2, w3, w4, w5, w6, w7, w8, w9, some (.d (.int (1 + (v : Int)))), none, none, none, none, none] [r0, r1]
  | 0, _ => many_0 r0 r1 w0 w2 w3 w4 w5 w6 w7 w8 w9
  | 1, _ => many_1 r0 r1 w0 w2 w3 w4 w5 w6 w7 w8 w9
  | 2, _ => many_2 r0 r1 w0 w2 w3 w4 w5 w6 w7 w8 w9
  | 3, _ => many_3 r0 r1 w0 w2 w3 w4 w5 w6 w7 w8 w9
  | 4, _ => many_4 r0 r1 w0 w2 w3 w4 w5 w6 w7 w8 w9
theorem last_ok (r0 r1 : C) (w0 w2 w3 w4 w5 w6 w7 w8 w9 w10 : Option W) : p26_law [w0, some (.r 1), w2, w3, w4, w5, w6, w7, w8, w9, w10, none, none, none, none, none] [r0, r1] = .rt (.d (.bl true)) [r0, r1] := by kernel_rfl
end DL
namespace DL
open PySem PySem.Spec PyProof.Rows L2 StX
theorem sA (f g h : SD) : sSeq f (sSeq g h) = sSeq (sSeq f g) h := funext fun _ => funext fun _ => sSeq_assoc
def Val (v : D) : Prop := v ∈ constV ∨ ∃ p ∈ PS, v ∈ commonV p ∨ v ∈ cutsV p p.length
theorem val_at {v : D} (h : Val v) (r1 : C) (w0 w2 w3 w4 w6 w7 w8 w9 w10 w11 w12 w13 w14 w15 : Option W) : bodyL [w0, some (.r 1), w2, w3, w4, some (.d v), w6, w7, w8, w9, w10, w11, w12, w13, w14, w15] [.tab qL, r1] =
    .nx [w0, some (.r 1), w2, w3, w4, some (.d v), some (.d (goodD v)), w7, w8, w9, w10, w11, w12, w13, w14, w15] [.tab qL, r1] := by
  have one : ∀ vs : List D, tst vs → v ∈ vs → bodyL [w0, some (.r 1), w2, w3, w4, some (.d v), w6, w7, w8, w9, w10, w11, w12, w13, w14, w15] [.tab qL, r1] =
    .nx [w0, some (.r 1), w2, w3, w4, some (.d v), some (.d (goodD v)), w7, w8, w9, w10, w11, w12, w13, w14, w15] [.tab qL, r1] := fun vs t hv => List.map_inj_left.mp (t r1 w0 w2 w3 w4 w6 w7 w8 w9 w10 w11 w12 w13 w14 w15) v hv
  rcases h with h | ⟨p, hp, h | h⟩
  · exact one _ const_all h
  · exact one _ (com_at p hp) h
  · exact one _ (cut_at p hp) h
theorem cuts_mem {p : List Pt} {k : Nat} : ∀ {n : Nat}, k < n → pieceD (cutN k p) ∈ cutsV p n
  | n + 1, h => by
    rw [cutsV]
    by_cases e : k = n
    · rw [e]; exact List.mem_cons_self
    · exact List.mem_cons_of_mem _ (cuts_mem (by omega))
theorem pairs_mem {p : List Pt} {k : Nat} : ∀ {n : Nat}, k < n → (p, k) ∈ pairs p n
  | n + 1, h => by
    rw [pairs]
    by_cases e : k = n
    · rw [e]; exact List.mem_cons_self
    · exact List.mem_cons_of_mem _ (pairs_mem (by omega))
theorem bent_mem {p : List Pt} {k : Nat} (hp : p ∈ PS) (hk : k < p.length) : ∀ v ∈ bentN p k, Val v := fun v hv => by
  have com : ∀ {v : D}, v ∈ commonV p → Val v := fun h => .inr ⟨p, hp, .inl h⟩
  rcases List.mem_append.mp hv with h | h
  · rcases List.mem_cons.mp h with rfl | h
    · exact com List.mem_cons_self
    · rcases List.mem_cons.mp h with rfl | h
      · exact .inr ⟨p, hp, .inr (cuts_mem hk)⟩
      · exact com (List.mem_cons_of_mem _ h)
  · exact .inl h
/-- the values, one after the other -/
theorem vals_ok (r1 : C) (w0 w2 w3 w4 w7 w8 w9 w10 w11 w12 w13 w14 w15 : Option W) (it : Wlk) (hc : it.cell = none) : ∀ (vs : List D) (w5 w6 : Option W), (∀ v ∈ vs, Val v) →
    ∃ w5' w6', forGo it (tgN 5) bodyL vs [w0, some (.r 1), w2, w3, w4, w5, w6, w7, w8, w9, w10, w11, w12, w13, w14, w15] [.tab qL, r1] = .nx [w0, some (.r 1), w2, w3, w4, w5', w6', w7, w8, w9, w10, w11, w12, w13, w14, w15] [.tab qL, r1]
  | [], w5, w6, _ => by
    have ok : cellOk it [.tab qL, r1] = true := by unfold cellOk; rw [hc]
    exact ⟨w5, w6, by rw [forGo, if_pos ok]⟩
  | v :: vs, w5, w6, h => by
    have ok : cellOk it [.tab qL, r1] = true := by unfold cellOk; rw [hc]
    obtain ⟨w5', w6', e⟩ := vals_ok r1 w0 w2 w3 w4 w7 w8 w9 w10 w11 w12 w13 w14 w15 it hc vs (some (.d v)) (some (.d (goodD v))) fun u hu => h u (List.mem_cons_of_mem _ hu)
    refine ⟨w5', w6', ?_⟩
    rw [forGo, if_pos ok]
    show (match bodyL [w0, some (.r 1), w2, w3, w4, some (.d v), w6, w7, w8, w9, w10, w11, w12, w13, w14, w15] [.tab qL, r1] with | .nx r S' => forGo it (tgN 5) bodyL vs r S' | .ct r S' => forGo it (tgN 5) bodyL vs r S' | .bk r S' => .nx r S' | o => o) = _
    rw [val_at (h v List.mem_cons_self)]
    exact e
theorem pieces_len : PS.all (fun p => decide (0 < p.length) && decide (p.length < 1000)) = true := by decide +kernel
theorem cells_len (p : List Pt) : (cellsD p).length = p.length := by rw [cellsD_map, List.length_map]
theorem fn_row2 {F : Fn} {fs : Den (List W)} {rho : Rho} {q : Str} {sc : List D} {a b c a' b' c' : Int} {more : Stor} {ws : List W} {y : D} (h1 : fs rho (rowS q sc a b c []) = .ok ws (rowS q sc a b c [])) (h2 : F ws (rowS q sc a b c []) = .ok (.d y) (rowS q sc a' b' c' more)) :
    dFn false F fs rho (rowS q sc a b c []) = .ok (.d y) (rowS q sc a' b' c' []) := by
  unfold dFn
  rw [h1]
  show leave false 2 (F ws (rowS q sc a b c [])) = _
  rw [h2]
  rfl
theorem law_true (ns : List Int) (h : ns.length ≤ 63) : ∃ S, F_law [.d (.lst (ns.map D.int))] [.tab "law.<locals>.<lambda>"] = .ok (.d (.bl true)) S := by
  -- the piece
  obtain ⟨p, l, a1, b1, c1, e1, hp, a10⟩ := grown (q := qL) (ns := ns) (a := 0) (b := 17000) (c := 0) (by omega)
  have hlen := List.all_eq_true.mp pieces_len p hp
  rw [Bool.and_eq_true, decide_eq_true_eq, decide_eq_true_eq] at hlen
  -- a place in it
  obtain ⟨v, a2, b2, c2, e2, v0, v1, a20⟩ := taken (q := qL) (ns := ns) (a := a1) (b := b1) (c := c1) (n := ((cellsD p).length : Int)) (rest := []) a10 (by rw [cells_len]; omega) (by rw [cells_len]; omega)
  rw [cells_len] at v1
  obtain ⟨k, rfl⟩ := Int.eq_ofNat_of_zero_le v0
  have hk : k < p.length := by omega
  -- how many
  obtain ⟨u, a3, b3, c3, e3, u0, u1, a30⟩ := taken (q := qL) (ns := ns) (a := a2) (b := b2) (c := c2) (n := 5) (rest := []) a20 (by omega) (by omega)
  obtain ⟨m, rfl⟩ := Int.eq_ofNat_of_zero_le u0
  have hm : m < 5 := by omega
  have w0 : Option W := some (.d (.lst (ns.map D.int)))
  have sc : Option W := some (.d (.lst (ns.map D.int)))
  refine ⟨rowS qL (ns.map D.int) a3 b3 c3 [], ?_⟩
  have s0 : p0_law [some (.d (.lst (ns.map D.int))), none, none, none, none, none, none, none, none, none, none, none, none, none, none, none] [.tab qL] = .nx [some (.d (.lst (ns.map D.int))), some (.r 1), none, none, none, none, none, none, none, none, none, none, none, none, none, none] (rowS qL (ns.map D.int) 0 17000 0 []) := rfl
  have s1 : p1_law [some (.d (.lst (ns.map D.int))), some (.r 1), none, none, none, none, none, none, none, none, none, none, none, none, none, none] (rowS qL (ns.map D.int) 0 17000 0 []) = .nx [some (.d (.lst (ns.map D.int))), some (.r 1), some (.d (pieceD p)), none, none, none, none, none, none, none, none, none, none, none, none, none] (rowS qL (ns.map D.int) a1 b1 c1 []) :=
    (sSet_ok (fn_row2 (ws := [.r 1, .d (.int 5)]) rfl e1)).trans rfl
  have s2 : p2_law [some (.d (.lst (ns.map D.int))), some (.r 1), some (.d (pieceD p)), none, none, none, none, none, none, none, none, none, none, none, none, none] (rowS qL (ns.map D.int) a1 b1 c1 []) = .nx (rhoL (some (.d (.lst (ns.map D.int)))) p k none) (rowS qL (ns.map D.int) a2 b2 c2 []) :=
    (sSet_ok (fn_row (ws := [.r 1, .d (.int ((cellsD p).length : Int))]) rfl e2)).trans rfl
  have s34 := List.map_inj_left.mp (bent_at (.tab qL) (.lst [.lst (ns.map D.int), .int a2, .int b2, .int c2]) (some (.d (.lst (ns.map D.int)))) p hp) (p, k) (pairs_mem hk)
  obtain ⟨w5, w6, s12⟩ := vals_ok (.lst [.lst (ns.map D.int), .int a2, .int b2, .int c2]) (some (.d (.lst (ns.map D.int)))) (some (.d (pieceD p))) (some (.d (.int k))) (some (.d (.lst (bentN p k)))) none none none none none none none none none ⟨bentN p k, none⟩ rfl (bentN p k) none none (bent_mem hp hk)
  have rest := rest_at (.tab qL) (.lst [.lst (ns.map D.int), .int a2, .int b2, .int c2]) (some (.d (.lst (ns.map D.int)))) (some (.d (.int k))) (some (.d (.lst (bentN p k)))) w5 w6 p hp
  have s23 : p23_law [some (.d (.lst (ns.map D.int))), some (.r 1), some (.d (pieceD p)), some (.d (.int k)), some (.d (.lst (bentN p k))), w5, w6, some (.d (.bl false)), some (.d (.int (highN p))), some (.d (.int (wideN p))), none, none, none, none, none, none] (rowS qL (ns.map D.int) a2 b2 c2 []) =
      .nx [some (.d (.lst (ns.map D.int))), some (.r 1), some (.d (pieceD p)), some (.d (.int k)), some (.d (.lst (bentN p k))), w5, w6, some (.d (.bl false)), some (.d (.int (highN p))), some (.d (.int (wideN p))), some (.d (.int (1 + (m : Int)))), none, none, none, none, none] (rowS qL (ns.map D.int) a3 b3 c3 []) :=
    (sSet_ok ((dOp_ok (a := .d (.int 1)) (S1 := rowS qL (ns.map D.int) a2 b2 c2 []) rfl (fn_row (ws := [.r 1, .d (.int 5)]) rfl e3)).trans rfl)).trans rfl
  have many := (many_at (.tab qL) (.lst [.lst (ns.map D.int), .int a3, .int b3, .int c3]) (some (.d (.lst (ns.map D.int)))) (some (.d (pieceD p))) (some (.d (.int k))) (some (.d (.lst (bentN p k)))) w5 w6 (some (.d (.bl false))) (some (.d (.int (highN p)))) (some (.d (.int (wideN p))))) m hm
  have fin := last_ok (.tab qL) (.lst [.lst (ns.map D.int), .int a3, .int b3, .int c3]) (some (.d (.lst (ns.map D.int)))) (some (.d (pieceD p))) (some (.d (.int k))) (some (.d (.lst (bentN p k)))) w5 w6 (some (.d (.bl false))) (some (.d (.int (highN p)))) (some (.d (.int (wideN p)))) (some (.d (.int (1 + (m : Int)))))
  have all : body_law [some (.d (.lst (ns.map D.int))), none, none, none, none, none, none, none, none, none, none, none, none, none, none, none] [.tab qL] = .rt (.d (.bl true)) (rowS qL (ns.map D.int) a3 b3 c3 []) := by
    unfold body_law
    refine (sSeq_nx s0).trans ((sSeq_nx s1).trans ((sSeq_nx s2).trans ?_))
    rw [sA p3_law]
    refine (sSeq_nx s34).trans ?_
    have s12' : p12_law (rhoL (some (.d (.lst (ns.map D.int)))) p k (some (.d (.lst (bentN p k))))) (rowS qL (ns.map D.int) a2 b2 c2 []) = .nx [some (.d (.lst (ns.map D.int))), some (.r 1), some (.d (pieceD p)), some (.d (.int k)), some (.d (.lst (bentN p k))), w5, w6, none, none, none, none, none, none, none, none, none] (rowS qL (ns.map D.int) a2 b2 c2 []) := s12
    refine (sSeq_nx s12').trans ?_
    rw [sA p20_law, sA p19_law, sA p17_law, sA p14_law]
    refine (sSeq_nx rest).trans ((sSeq_nx s23).trans ((sSeq_nx many).trans fin))
  show (match body_law [some (.d (.lst (ns.map D.int))), none, none, none, none, none, none, none, none, none, none, none, none, none, none, none] [.tab qL] with | .nx _ S' => Res.ok (W.d D.non) S' | .rt w S' => .ok w S' | .exc e _ S' => .exc e S' | _ => .bad) = _
  rw [all]
end DL
set_option maxRecDepth 100000 in
set_option maxHeartbeats 0 in
theorem PySem.Challenge.cw_fitfloors_k00_whole_pieces_holds : PySem.Challenge.rw_fitfloors_k00_whole_pieces.Holds := by
  w_on; o_law; k_head; (case hw => w_witness2)
  k_fill
  refine LamX.walk_ofTs (l := PySem.Challenge.rw_fitfloors_k00_whole_pieces) (n := 63) (k := 11) (x := "script") (CX := fun w => L2.CX PySem.Challenge.pw_fitfloors_k00_whole_pieces w) rfl (by decide) rfl ⟨by decide, by decide, by decide⟩ (fun w h Y => PySem.W.km_in_of Y) ?F ?C
  case F =>
    intro w mg fa h Y KX G hmg
    have hT8 := PySem.W.km_tabs_of Y
    refine' DL.all_mk KX G hmg ?a24 ?l24 ?c24 ?k24 ?a25 ?l25 ?c25 ?k25 ?a26 ?l26 ?c26 ?k26 ?a41 ?l41 ?c41 ?k41 ?a22 ?l22 ?c22 ?k22 ?a23 ?l23 ?c23 ?k23 ?a39 ?l39 ?c39 ?k39 ?a40 ?l40 ?c40 ?k40 ?a18 ?l18 ?c18 ?k18 ?a19 ?l19 ?c19 ?k19 ?a6 ?l6 ?c6 ?k6 ?a9 ?l9 ?c9 ?k9 ?a8 ?l8 ?c8 ?k8 ?a2 ?l2 ?c2 ?k2 ?a3 ?l3 ?c3 ?k3 ?a10 ?l10 ?c10 ?k10 ?a17 ?l17 ?c17 ?k17 ?a0 ?l0 ?c0 ?k0 ?a11 ?l11 ?c11 ?k11 ?a1 ?l1 ?c1 ?k1 ?a12 ?l12 ?c12 ?k12 ?a5 ?l5 ?c5 ?k5 ?a4 ?l4 ?c4 ?k4 ?a13 ?l13 ?c13 ?k13 ?a14 ?l14 ?c14 ?k14 ?a20 ?l20 ?c20 ?k20 ?a7 ?l7 ?c7 ?k7 ?a15 ?l15 ?c15 ?k15 ?a21 ?l21 ?c21 ?k21 ?a16 ?l16 ?c16 ?k16 ?a42 ?l42 ?c42 ?k42 ?a43 ?l43 ?c43 ?k43 ?z_abs ?z_all ?z_bool ?z_int ?z_isinstance ?z_len ?z_list ?z_max ?z_min ?z_range ?z_set ?z_sorted ?z_str ?z_tuple ?y_MOST_CELLS ?a45 ?x45 ?k45 ?s45 ?t45 ?i45 ?e45 ?hh ?nT (List.forall_mem_cons.mp hT8).1 DL.law_true
    (case a24 => first | k_is | kernel_rfl)
    (case l24 => first | k_is | kernel_rfl)
    (case c24 => first | k_is | kernel_rfl)
    (case k24 => first | k_is | kernel_rfl)
    (case a25 => first | k_is | kernel_rfl)
    (case l25 => first | k_is | kernel_rfl)
    (case c25 => first | k_is | kernel_rfl)
    (case k25 => first | k_is | kernel_rfl)
    (case a26 => first | k_is | kernel_rfl)
    (case l26 => first | k_is | kernel_rfl)
    (case c26 => first | k_is | kernel_rfl)
    (case k26 => first | k_is | kernel_rfl)
    (case a41 => first | k_is | kernel_rfl)
    (case l41 => first | k_is | kernel_rfl)
    (case c41 => first | k_is | kernel_rfl)
    (case k41 => first | k_is | kernel_rfl)
    (case a22 => first | k_is | kernel_rfl)
    (case l22 => first | k_is | kernel_rfl)
    (case c22 => first | k_is | kernel_rfl)
    (case k22 => first | k_is | kernel_rfl)
    (case a23 => first | k_is | kernel_rfl)
    (case l23 => first | k_is | kernel_rfl)
    (case c23 => first | k_is | kernel_rfl)
    (case k23 => first | k_is | kernel_rfl)
    (case a39 => first | k_is | kernel_rfl)
    (case l39 => first | k_is | kernel_rfl)
    (case c39 => first | k_is | kernel_rfl)
    (case k39 => first | k_is | kernel_rfl)
    (case a40 => first | k_is | kernel_rfl)
    (case l40 => first | k_is | kernel_rfl)
    (case c40 => first | k_is | kernel_rfl)
    (case k40 => first | k_is | kernel_rfl)
    (case a18 => first | k_is | kernel_rfl)
    (case l18 => first | k_is | kernel_rfl)
    (case c18 => first | k_is | kernel_rfl)
    (case k18 => first | k_is | kernel_rfl)
    (case a19 => first | k_is | kernel_rfl)
    (case l19 => first | k_is | kernel_rfl)
    (case c19 => first | k_is | kernel_rfl)
    (case k19 => first | k_is | kernel_rfl)
    (case a6 => first | k_is | kernel_rfl)
    (case l6 => first | k_is | kernel_rfl)
    (case c6 => first | k_is | kernel_rfl)
    (case k6 => first | k_is | kernel_rfl)
    (case a9 => first | k_is | kernel_rfl)
    (case l9 => first | k_is | kernel_rfl)
    (case c9 => first | k_is | kernel_rfl)
    (case k9 => first | k_is | kernel_rfl)
    (case a8 => first | k_is | kernel_rfl)
    (case l8 => first | k_is | kernel_rfl)
    (case c8 => first | k_is | kernel_rfl)
    (case k8 => first | k_is | kernel_rfl)
    (case a2 => first | k_is | kernel_rfl)
    (case l2 => first | k_is | kernel_rfl)
    (case c2 => first | k_is | kernel_rfl)
    (case k2 => first | k_is | kernel_rfl)
    (case a3 => first | k_is | kernel_rfl)
    (case l3 => first | k_is | kernel_rfl)
    (case c3 => first | k_is | kernel_rfl)
    (case k3 => first | k_is | kernel_rfl)
    (case a10 => first | k_is | kernel_rfl)
    (case l10 => first | k_is | kernel_rfl)
    (case c10 => first | k_is | kernel_rfl)
    (case k10 => first | k_is | kernel_rfl)
    (case a17 => first | k_is | kernel_rfl)
    (case l17 => first | k_is | kernel_rfl)
    (case c17 => first | k_is | kernel_rfl)
    (case k17 => first | k_is | kernel_rfl)
    (case a0 => first | k_is | kernel_rfl)
    (case l0 => first | k_is | kernel_rfl)
    (case c0 => first | k_is | kernel_rfl)
    (case k0 => first | k_is | kernel_rfl)
    (case a11 => first | k_is | kernel_rfl)
    (case l11 => first | k_is | kernel_rfl)
    (case c11 => first | k_is | kernel_rfl)
    (case k11 => first | k_is | kernel_rfl)
    (case a1 => first | k_is | kernel_rfl)
    (case l1 => first | k_is | kernel_rfl)
    (case c1 => first | k_is | kernel_rfl)
    (case k1 => first | k_is | kernel_rfl)
    (case a12 => first | k_is | kernel_rfl)
    (case l12 => first | k_is | kernel_rfl)
    (case c12 => first | k_is | kernel_rfl)
    (case k12 => first | k_is | kernel_rfl)
    (case a5 => first | k_is | kernel_rfl)
    (case l5 => first | k_is | kernel_rfl)
    (case c5 => first | k_is | kernel_rfl)
    (case k5 => first | k_is | kernel_rfl)
    (case a4 => first | k_is | kernel_rfl)
    (case l4 => first | k_is | kernel_rfl)
    (case c4 => first | k_is | kernel_rfl)
    (case k4 => first | k_is | kernel_rfl)
    (case a13 => first | k_is | kernel_rfl)
    (case l13 => first | k_is | kernel_rfl)
    (case c13 => first | k_is | kernel_rfl)
    (case k13 => first | k_is | kernel_rfl)
    (case a14 => first | k_is | kernel_rfl)
    (case l14 => first | k_is | kernel_rfl)
    (case c14 => first | k_is | kernel_rfl)
    (case k14 => first | k_is | kernel_rfl)
    (case a20 => first | k_is | kernel_rfl)
    (case l20 => first | k_is | kernel_rfl)
    (case c20 => first | k_is | kernel_rfl)
    (case k20 => first | k_is | kernel_rfl)
    (case a7 => first | k_is | kernel_rfl)
    (case l7 => first | k_is | kernel_rfl)
    (case c7 => first | k_is | kernel_rfl)
    (case k7 => first | k_is | kernel_rfl)
    (case a15 => first | k_is | kernel_rfl)
    (case l15 => first | k_is | kernel_rfl)
    (case c15 => first | k_is | kernel_rfl)
    (case k15 => first | k_is | kernel_rfl)
    (case a21 => first | k_is | kernel_rfl)
    (case l21 => first | k_is | kernel_rfl)
    (case c21 => first | k_is | kernel_rfl)
    (case k21 => first | k_is | kernel_rfl)
    (case a16 => first | k_is | kernel_rfl)
    (case l16 => first | k_is | kernel_rfl)
    (case c16 => first | k_is | kernel_rfl)
    (case k16 => first | k_is | kernel_rfl)
    (case a42 => first | k_is | kernel_rfl)
    (case l42 => first | k_is | kernel_rfl)
    (case c42 => first | k_is | kernel_rfl)
    (case k42 => first | k_is | kernel_rfl)
    (case a43 => first | k_is | kernel_rfl)
    (case l43 => first | k_is | kernel_rfl)
    (case c43 => first | k_is | kernel_rfl)
    (case k43 => first | k_is | kernel_rfl)
    (case z_abs => first | k_is | kernel_rfl)
    (case z_all => first | k_is | kernel_rfl)
    (case z_bool => first | k_is | kernel_rfl)
    (case z_int => first | k_is | kernel_rfl)
    (case z_isinstance => first | k_is | kernel_rfl)
    (case z_len => first | k_is | kernel_rfl)
    (case z_list => first | k_is | kernel_rfl)
    (case z_max => first | k_is | kernel_rfl)
    (case z_min => first | k_is | kernel_rfl)
    (case z_range => first | k_is | kernel_rfl)
    (case z_set => first | k_is | kernel_rfl)
    (case z_sorted => first | k_is | kernel_rfl)
    (case z_str => first | k_is | kernel_rfl)
    (case z_tuple => first | k_is | kernel_rfl)
    (case y_MOST_CELLS => first | k_is | kernel_rfl)
    (case a45 => first | k_is | kernel_rfl)
    (case x45 => first | k_is | kernel_rfl)
    (case k45 => first | k_is | kernel_rfl)
    (case s45 => first | k_is | kernel_rfl)
    (case t45 => first | k_is | kernel_rfl)
    (case i45 => first | k_is | kernel_rfl)
    (case e45 => first | k_is | kernel_rfl)
    (case hh => first | k_is | kernel_rfl)
    (case nT => first | k_is | kernel_rfl)
  case C =>
    intro w H s e s' ⟨_, _, _, _, _, _, _, _, _, _, _, _, z⟩
    exact z

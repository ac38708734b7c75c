import PyProof.Rows.All
import Wide.All
import OpenK.AllK
import Wide.FinOn
import HandS.ForMost
import HandS.ForExc
import HandS.IsInst
import HandS.Lambda
import HandS.ExcInit
import HandS.ExcField
import HandS.TryOnly
import HandS.TupAny
import HandS.Deep
import HandS.Conv
import HandS.Style
import PyProof.Rows.IntBool
import HandS.WordsExc
import KE.KDictPairs
import HandS.Dict
import HandS.More
import HandS.EndBits
import KE.KNestM
import HandS.Zip
import KE.KExcIs
import HandS.ExcIs
import KE.GoesEnum
import HandS.DictComp
import HandS.Flow
import HandS.Call
import HandS.Star
import PySem.Challenge.RW_lateforms_k18_plain_steps_done
set_option Elab.async false
set_option linter.all false
set_option maxRecDepth 100000
set_option maxHeartbeats 4000000
/-! ## Fx0 -/
section
namespace Fx
open PySem PySem.Spec PyProof.Rows L2

/-- the tables of code objects that a law may write: the table's address, the name of what it tells -/
class Tabl where
  T : List (Addr × Str)
variable [tb : Tabl]
/-- plain data; obj n is the n-th thing of the store; err a dd ns ds the caught exception at a, its dict at dd, its fields -/
inductive D where
  | non | bl (b : Bool) | int (i : Int) | str (x : Str) | lst (xs : List D) | tup (xs : List D) | obj (n : Nat) | scr (ns : List Int) | err (a dd : Addr) (ns : List Str) (ds : List D) | utp (xs : List D)

/-- a thing of the store -/
inductive OD where
  | lst (xs : List D) | dct (kvs : List (Key × D))

abbrev Store := List (Option OD)
abbrev Env := List (Option D)

/-- a tuple without a dict of its own -/
def SqC (K : PySem.W.Frag) (H : Hp) (a : Addr) (xs : List V) : Prop :=
  (∃ o, H a = some (.frz o (.tup xs)) ∧ o.dict = none) ∨ ∃ (o : Obj) (its : Array Value) (n : Nat), K.lookup a = some o ∧ o.cls = .type "tuple" ∧ o.dict = none ∧ o.data = .seq its n ∧ its.size ≤ sizeLine ∧ Vals xs its.toList
theorem SqC.sq {K : PySem.W.Frag} {H : Hp} {a : Addr} {xs : List V} (h : SqC K H a xs) : SqT K H a xs := by
  rcases h with ⟨o, h, _⟩ | ⟨o, its, n, h1, h2, _, h3⟩
  · exact .inl (.inr ⟨o, h⟩)
  · exact .inr ⟨o, its, n, h1, h2, h3⟩
theorem sqC_mono {K : PySem.W.Frag} {F F' : Hp} (h : ∀ a o, F a = some o → F' a = some o) {a : Addr} {xs : List V} (q : SqC K F a xs) : SqC K F' a xs := by
  rcases q with ⟨o, q, z⟩ | q
  · exact .inl ⟨o, h _ _ q, z⟩
  · exact .inr q
section
variable (K : PySem.W.Frag) (F : Hp) (ad : Nat → Addr) (L : Nat)
mutual
def DP : D → V → Prop
  | .non, v => v = .non
  | .bl b, v => v = .bl b
  | .int i, v => v = .int i
  | .str x, v => v = .str x
  | .lst ds, v => ∃ a xs, v = .ref a ∧ F a = some (.lst xs) ∧ DPs ds xs
  | .tup ds, v => ∃ a xs, v = .ref a ∧ SqC K F a xs ∧ DPs ds xs
  | .utp ds, v => ∃ a xs, v = .ref a ∧ SqT K F a xs ∧ DPs ds xs
  | .obj n, v => n < L ∧ v = .ref (ad n)
  | .scr ns, v => ∃ a, v = .ref a ∧ SqL K F a (ns.map V.int)
  | .err a dd ns ds, v => v = .ref a ∧ ∃ vs : List (Str × V), F dd = some (.xd vs) ∧ vs.map (·.1) = ns ∧ DPs ds (vs.map (·.2))
def DPs : List D → List V → Prop
  | [], vs => vs = []
  | d :: ds, vs => ∃ v r, vs = v :: r ∧ DP d v ∧ DPs ds r
end
def DPk : List (Key × D) → List (Key × V) → Prop
  | [], vs => vs = []
  | (k, d) :: ds, vs => ∃ v r, vs = (k, v) :: r ∧ DP K F ad L d v ∧ DPk ds r
def OR : OD → HO → Prop
  | .lst ds, o => ∃ xs, o = .lst xs ∧ DPs K F ad L ds xs
  | .dct kvs, o => ∃ vs, o = .dK vs ∧ DPk K F ad L kvs vs
end

structure RS (K : PySem.W.Frag) (F : Hp) (ad : Nat → Addr) (S : Store) (H : Hp) : Prop where
  sub : ∀ a o, F a = some o → H a = some o
  liv : ∀ n od, S[n]? = some (some od) → F (ad n) = none ∧ ∃ o, H (ad n) = some o ∧ OR K F ad S.length od o
  inj : ∀ n m od od', S[n]? = some (some od) → S[m]? = some (some od') → ad n = ad m → n = m
  tab : LamX.Tabs tb.T H
  ntb : ∀ a ps, F a ≠ some (.tbl ps)

/-- the address of a live thing -/
def Live (S : Store) (ad : Nat → Addr) (a : Addr) : Prop := ∃ n od, S[n]? = some (some od) ∧ ad n = a

/-- nothing stands at a, or a table -/
def Fr (H : Hp) (a : Addr) : Prop := H a = none ∨ ∃ ps, H a = some (.tbl ps)
structure Nx (F : Hp) (ad : Nat → Addr) (S : Store) (H : Hp) (F' : Hp) (ad' : Nat → Addr) (S' : Store) (H' : Hp) : Prop where
  fsub : ∀ a o, F a = some o → F' a = some o
  fnew : ∀ a o, F' a = some o → F a = some o ∨ Fr H a ∨ Live S ad a
  len : S.length ≤ S'.length
  adk : ∀ n, n < S.length → ad' n = ad n
  snew : ∀ n od', S'[n]? = some (some od') → (∃ od, S[n]? = some (some od)) ∨ Fr H (ad' n)
  keep : ∀ a o, H a = some o → ¬ Live S ad a → (∀ ps, o ≠ .tbl ps) → H' a = some o
  back : ∀ a, Fr H' a → Fr H a

theorem lt_of_some {α : Type} {l : List α} {n : Nat} {x : α} (h : l[n]? = some x) : n < l.length := (List.getElem?_eq_some_iff.mp h).1

theorem Nx.refl {F ad S H} : Nx F ad S H F ad S H :=
  ⟨fun _ _ h => h, fun _ _ h => .inl h, Nat.le_refl _, fun _ _ => rfl, fun n od h => .inl ⟨od, h⟩, fun _ _ h _ _ => h, fun _ h => h⟩

theorem Nx.live_back {F ad S H F' ad' S' H'} (x : Nx F ad S H F' ad' S' H') {a : Addr} (h : Live S' ad' a) : Live S ad a ∨ Fr H a := by
  obtain ⟨n, od, h1, h2⟩ := h
  rcases x.snew n od h1 with ⟨od0, h3⟩ | h3
  · exact .inl ⟨n, od0, h3, by rw [← x.adk n (lt_of_some h3)]; exact h2⟩
  · rw [h2] at h3; exact .inr h3

theorem fr_no {H : Hp} {a : Addr} {o : HO} (h : H a = some o) (n : ∀ ps, o ≠ .tbl ps) (f : Fr H a) : False := by
  rcases f with q | ⟨ps, q⟩
  · rw [h] at q; cases q
  · rw [h] at q; exact n ps (Option.some.inj q)
theorem Nx.trans {F ad S H F1 ad1 S1 H1 F2 ad2 S2 H2} (x : Nx F ad S H F1 ad1 S1 H1) (y : Nx F1 ad1 S1 H1 F2 ad2 S2 H2) : Nx F ad S H F2 ad2 S2 H2 := by
  refine ⟨fun a o h => y.fsub a o (x.fsub a o h), fun a o h => ?_, Nat.le_trans x.len y.len, fun n h => ?_, fun n od h => ?_, fun a o h hl ht => ?_, fun a h => x.back a (y.back a h)⟩
  · rcases y.fnew a o h with h | h | h
    · exact x.fnew a o h
    · exact .inr (.inl (x.back a h))
    · rcases x.live_back h with h | h
      · exact .inr (.inr h)
      · exact .inr (.inl h)
  · rw [y.adk n (Nat.lt_of_lt_of_le h x.len), x.adk n h]
  · rcases y.snew n od h with ⟨od1, h1⟩ | h1
    · rcases x.snew n od1 h1 with h2 | h2
      · exact .inl h2
      · rw [y.adk n (lt_of_some h1)]; exact .inr h2
    · exact .inr (x.back _ h1)
  · exact y.keep a o (x.keep a o h hl ht) (fun h2 => (x.live_back h2).elim hl fun q => fr_no h ht q) ht

/-! ### growing -/
structure Gr (F : Hp) (ad : Nat → Addr) (L : Nat) (F' : Hp) (ad' : Nat → Addr) (L' : Nat) : Prop where
  f : ∀ a o, F a = some o → F' a = some o
  l : L ≤ L'
  a : ∀ n, n < L → ad' n = ad n
theorem Nx.gr {F ad S H F' ad' S' H'} (x : Nx F ad S H F' ad' S' H') : Gr F ad S.length F' ad' S'.length := ⟨x.fsub, x.len, x.adk⟩
theorem Gr.refl {F ad L} : Gr F ad L F ad L := ⟨fun _ _ h => h, Nat.le_refl _, fun _ _ => rfl⟩

section
variable {K : PySem.W.Frag} {F F' H : Hp} {ad ad' : Nat → Addr} {L L' : Nat}
theorem sqL_mono {F F' : Hp} (h : ∀ a o, F a = some o → F' a = some o) {a : Addr} {xs : List V} (q : SqL K F a xs) : SqL K F' a xs := Same.seq h q
theorem sqT_mono {F F' : Hp} (h : ∀ a o, F a = some o → F' a = some o) {a : Addr} {xs : List V} (q : SqT K F a xs) : SqT K F' a xs := by
  rcases q with (q | ⟨o, q⟩) | q
  · exact .inl (.inl (h _ _ q))
  · exact .inl (.inr ⟨o, h _ _ q⟩)
  · exact .inr q
mutual
theorem DP.mono (g : Gr F ad L F' ad' L') : ∀ (d : D) (v : V), DP K F ad L d v → DP K F' ad' L' d v
  | .non, _, h => h
  | .bl _, _, h => h
  | .int _, _, h => h
  | .str _, _, h => h
  | .lst ds, v, ⟨a, xs, e, q, r⟩ => ⟨a, xs, e, g.f _ _ q, DPs.mono g ds xs r⟩
  | .tup ds, v, ⟨a, xs, e, q, r⟩ => ⟨a, xs, e, sqC_mono g.f q, DPs.mono g ds xs r⟩
  | .utp ds, v, ⟨a, xs, e, q, r⟩ => ⟨a, xs, e, sqT_mono g.f q, DPs.mono g ds xs r⟩
  | .obj n, v, ⟨h1, h2⟩ => ⟨Nat.lt_of_lt_of_le h1 g.l, by rw [g.a n h1]; exact h2⟩
  | .scr _, _, ⟨a, e, q⟩ => ⟨a, e, sqL_mono g.f q⟩
  | .err _ _ _ ds, _, ⟨h1, vs, h2, h3, h4⟩ => ⟨h1, vs, g.f _ _ h2, h3, DPs.mono g ds _ h4⟩
theorem DPs.mono (g : Gr F ad L F' ad' L') : ∀ (ds : List D) (vs : List V), DPs K F ad L ds vs → DPs K F' ad' L' ds vs
  | [], _, h => h
  | d :: ds, _, ⟨v, r, e, h1, h2⟩ => ⟨v, r, e, DP.mono g d v h1, DPs.mono g ds r h2⟩
end
theorem DPk.mono (g : Gr F ad L F' ad' L') : ∀ (ds : List (Key × D)) (vs : List (Key × V)), DPk K F ad L ds vs → DPk K F' ad' L' ds vs
  | [], _, h => h
  | (k, d) :: ds, _, ⟨v, r, e, h1, h2⟩ => ⟨v, r, e, DP.mono g d v h1, DPk.mono g ds r h2⟩
theorem OR.mono (g : Gr F ad L F' ad' L') : ∀ (d : OD) (o : HO), OR K F ad L d o → OR K F' ad' L' d o
  | .lst ds, _, ⟨xs, e, h⟩ => ⟨xs, e, DPs.mono g ds xs h⟩
  | .dct ds, _, ⟨xs, e, h⟩ => ⟨xs, e, DPk.mono g ds xs h⟩

theorem DPs.length : ∀ {ds : List D} {vs : List V}, DPs K F ad L ds vs → ds.length = vs.length
  | [], _, h => by cases h; rfl
  | _ :: ds, _, ⟨v, r, e, _, h⟩ => by cases e; simp [DPs.length h]
theorem DPs.get : ∀ {ds : List D} {vs : List V} {i : Nat} {v : V}, DPs K F ad L ds vs → vs[i]? = some v → ∃ d, ds[i]? = some d ∧ DP K F ad L d v
  | [], _, _, _, h, e => by cases h; cases e
  | d :: ds, _, 0, v, ⟨w, r, e1, h1, h2⟩, e => by cases e1; cases e; exact ⟨d, rfl, h1⟩
  | d :: ds, _, i + 1, v, ⟨w, r, e1, h1, h2⟩, e => by cases e1; exact DPs.get (i := i) h2 (by simpa using e)
theorem DPs.at : ∀ {ds : List D} {vs : List V} {i : Nat} {d : D}, DPs K F ad L ds vs → ds[i]? = some d → ∃ v, vs[i]? = some v ∧ DP K F ad L d v
  | [], _, _, _, h, e => by cases e
  | d :: ds, _, 0, _, ⟨w, r, e1, h1, h2⟩, e => by cases e1; cases e; exact ⟨w, rfl, h1⟩
  | d :: ds, _, i + 1, _, ⟨w, r, e1, h1, h2⟩, e => by cases e1; exact DPs.at (i := i) h2 (by simpa using e)
theorem DPs.append : ∀ {ds es : List D} {vs us : List V}, DPs K F ad L ds vs → DPs K F ad L es us → DPs K F ad L (ds ++ es) (vs ++ us)
  | [], _, _, _, h, k => by cases h; exact k
  | d :: ds, _, _, _, ⟨w, r, e1, h1, h2⟩, k => by cases e1; exact ⟨w, _, rfl, h1, DPs.append h2 k⟩
theorem DPs.take : ∀ {ds : List D} {vs : List V} (n : Nat), DPs K F ad L ds vs → DPs K F ad L (ds.take n) (vs.take n)
  | _, _, 0, _ => by simp [DPs]
  | [], _, _ + 1, h => by cases h; simp [DPs]
  | d :: ds, _, n + 1, ⟨w, r, e1, h1, h2⟩ => by cases e1; exact ⟨w, _, rfl, h1, DPs.take n h2⟩
theorem DPs.drop : ∀ {ds : List D} {vs : List V} (n : Nat), DPs K F ad L ds vs → DPs K F ad L (ds.drop n) (vs.drop n)
  | _, _, 0, h => h
  | [], _, _ + 1, h => by cases h; simp [DPs]
  | d :: ds, _, n + 1, ⟨w, r, e1, h1, h2⟩ => by cases e1; exact DPs.drop n h2
theorem DPs.one {d : D} {v : V} (h : DP K F ad L d v) : DPs K F ad L [d] [v] := ⟨v, [], rfl, h, rfl⟩
theorem DPs.reverse : ∀ {ds : List D} {vs : List V}, DPs K F ad L ds vs → DPs K F ad L ds.reverse vs.reverse
  | [], _, h => by cases h; exact rfl
  | d :: ds, _, ⟨w, r, e1, h1, h2⟩ => by
    cases e1
    rw [List.reverse_cons, List.reverse_cons]
    exact DPs.append (DPs.reverse h2) (DPs.one h1)
theorem DPs.eraseIdx : ∀ {ds : List D} {vs : List V} (i : Nat), DPs K F ad L ds vs → DPs K F ad L (ds.eraseIdx i) (vs.eraseIdx i)
  | [], _, _, h => by cases h; exact rfl
  | d :: ds, _, 0, ⟨w, r, e1, h1, h2⟩ => by cases e1; exact h2
  | d :: ds, _, i + 1, ⟨w, r, e1, h1, h2⟩ => by cases e1; exact ⟨w, _, rfl, h1, DPs.eraseIdx i h2⟩
theorem DPs.set {d : D} {v : V} (h : DP K F ad L d v) : ∀ {ds : List D} {vs : List V} (i : Nat), DPs K F ad L ds vs → DPs K F ad L (ds.set i d) (vs.set i v)
  | [], _, _, k => by cases k; exact rfl
  | _ :: ds, _, 0, ⟨w, r, e1, h1, h2⟩ => by cases e1; exact ⟨v, _, rfl, h, h2⟩
  | _ :: ds, _, i + 1, ⟨w, r, e1, h1, h2⟩ => by cases e1; exact ⟨w, _, rfl, h1, DPs.set h i h2⟩
end

/-- the slots -/
def RE (K : PySem.W.Frag) (F : Hp) (ad : Nat → Addr) (L : Nat) (env : Env) (σ : L2.St) : Prop := ∀ (i : Nat) (d : D), env[i]? = some (some d) → ∃ v, σ[i]? = some (some v) ∧ DP K F ad L d v
theorem RE.mono {K F ad L F' ad' L' env σ} (g : Gr F ad L F' ad' L') (h : RE K F ad L env σ) : RE K F' ad' L' env σ := fun i d e => by
  obtain ⟨v, h1, h2⟩ := h i d e
  exact ⟨v, h1, DP.mono g d v h2⟩
theorem RE.set {K F ad L env σ} {i : Nat} {d : D} {v : V} (h : RE K F ad L env σ) (hd : DP K F ad L d v) (hi : i < σ.length) : RE K F ad L (env.set i (some d)) (σ.set i (some v)) := fun j e q => by
  by_cases hj : i = j
  · subst hj
    by_cases hl : i < env.length
    · rw [List.getElem?_set_self hl] at q; cases q
      exact ⟨v, by rw [List.getElem?_set_self hi], hd⟩
    · rw [List.getElem?_eq_none (by simpa using hl)] at q; cases q
  · rw [List.getElem?_set_ne hj] at q ⊢
    exact h j e q

/-! ### what comes out -/
structure Ex where
  cls : String
  fs : List (Str × D)
inductive Rs (α : Type) where
  | ok (a : α) (S : Store) | ex (e : Ex) (S : Store) | no
abbrev M (α : Type) := Store → Rs α
def pur {α : Type} (a : α) : M α := fun S => .ok a S
def bd {α β : Type} (m : M α) (k : α → M β) : M β := fun S => match m S with
  | .ok a S' => k a S'
  | .ex e S' => .ex e S'
  | .no => .no
def mno {α : Type} : M α := fun _ => .no
def opt {α : Type} : Option α → M α
  | some a => pur a
  | none => mno
theorem bd_pur {α β : Type} (a : α) (k : α → M β) : bd (pur a) k = k a := rfl

/-- how an exception lies -/
def ER (K : PySem.W.Frag) (mg : Str → Option Value) (F : Hp) (ad : Nat → Addr) (L : Nat) (e : Ex) (cls : Value) (d : Option Addr) (H : Hp) : Prop :=
  ∃ C a fs, mg (Str.ofString e.cls) = some (.ref C) ∧ cls = .ref C ∧ d = some a ∧ F a = some (.xd fs) ∧ fs.map (·.1) = e.fs.map (·.1) ∧ DPs K F ad L (e.fs.map (·.2)) (fs.map (·.2))

/-- the end of an expression -/
def Fin {α β : Type} (X : Cx) (W : WX) (RR : Hp → (Nat → Addr) → Nat → α → β → Prop) (σ : L2.St) (F : Hp) (ad : Nat → Addr) (S : Store) (H : Hp) (r : Rs α) (Q : β → Hp → Prop) : Prop :=
  match r with
  | .ok d S' => ∀ v F' ad' H', Nx F ad S H F' ad' S' H' → RS X.K F' ad' S' H' → RR F' ad' S'.length d v → Q v H'
  | .ex e S' => ∀ cls dd F' ad' H', Nx F ad S H F' ad' S' H' → RS X.K F' ad' S' H' → ER X.K X.mg F' ad' S'.length e cls dd H' → W cls dd σ H'
  | .no => False
def tX {α β : Type} (X : Cx) (W : WX) (RR : Hp → (Nat → Addr) → Nat → α → β → Prop) (f : Env → M α) : L2.St → Hp → (β → Hp → Prop) → Prop := fun σ H Q =>
  ∃ F ad env S, RE X.K F ad S.length env σ ∧ RS X.K F ad S H ∧ Fin X W RR σ F ad S H (f env S) Q
/-- an expression by a function -/
def tF (X : Cx) (W : WX) (f : Env → M D) : TE := tX X W (DP X.K) f
def tB (X : Cx) (W : WX) (f : Env → M Bool) : TT := tX X W (fun _ _ _ b c => b = c) f
def tL (X : Cx) (W : WX) (f : Env → M (List D)) : TA := tX X W (DPs X.K) f

structure FE (X : Cx) (W : WX) (e : Expr) (f : Env → M D) : Prop where
  run : PE X e (tF X W f)
structure FT (X : Cx) (W : WX) (e : Expr) (f : Env → M Bool) : Prop where
  run : PT X e (tB X W f)
structure FW (X : Cx) (W : WX) (e : Expr) (f : Env → M Bool) : Prop where
  run : PW X e (tB X W f)
structure FA (X : Cx) (W : WX) (es : List Expr) (f : Env → M (List D)) : Prop where
  run : PA X es (tL X W f)

theorem PE.weak {X : Cx} {e : Expr} {t t' : TE} (h : PE X e t) (w : ∀ σ H Q, t' σ H Q → t σ H Q) : PE X e t' := ⟨fun pins s σ H Q I q => h.run pins s σ H Q I (w _ _ _ q)⟩
theorem PT.weak {X : Cx} {e : Expr} {t t' : TT} (h : PT X e t) (w : ∀ σ H Q, t' σ H Q → t σ H Q) : PT X e t' := ⟨fun pins s σ H Q I q => h.run pins s σ H Q I (w _ _ _ q)⟩
theorem PW.weak {X : Cx} {e : Expr} {t t' : TT} (h : PW X e t) (w : ∀ σ H Q, t' σ H Q → t σ H Q) : PW X e t' := ⟨fun wh pins s σ H Q I q => h.run wh pins s σ H Q I (w _ _ _ q)⟩
theorem PA.weak {X : Cx} {e : List Expr} {t t' : TA} (h : PA X e t) (w : ∀ σ H Q, t' σ H Q → t σ H Q) : PA X e t' := ⟨fun pos pins s σ H Q I q => h.run pos pins s σ H Q I (w _ _ _ q)⟩
theorem PS.weak {X : Cx} {e : Stmt} {t t' : TS} (h : PS X e t) (w : ∀ D σ H, t' D σ H → t D σ H) : PS X e t' := ⟨fun pins s σ H D I q => h.run pins s σ H D I (w _ _ _ q)⟩
theorem PSs.weak {X : Cx} {e : List Stmt} {t t' : TS} (h : PSs X e t) (w : ∀ D σ H, t' D σ H → t D σ H) : PSs X e t' := ⟨fun pins s σ H D I q => h.run pins s σ H D I (w _ _ _ q)⟩

/-- one after another: what the first part's reading needs -/
theorem Fin.seq {α β α' β' : Type} {X : Cx} {W : WX} {RR : Hp → (Nat → Addr) → Nat → α → β → Prop} {RR' : Hp → (Nat → Addr) → Nat → α' → β' → Prop} {m : M α} {k : α → M α'} {σ : L2.St} {H : Hp} {Q : β' → Hp → Prop} {Q1 : β → Hp → Prop}
    {F : Hp} {ad : Nat → Addr} {env : Env} {S : Store} (re : RE X.K F ad S.length env σ) (h : Fin X W RR' σ F ad S H (bd m k S) Q)
    (hk : ∀ F1 ad1 S1 d v H1, Nx F ad S H F1 ad1 S1 H1 → RE X.K F1 ad1 S1.length env σ → RS X.K F1 ad1 S1 H1 → RR F1 ad1 S1.length d v → Fin X W RR' σ F1 ad1 S1 H1 (k d S1) Q → Q1 v H1) :
    Fin X W RR σ F ad S H (m S) Q1 := by
  simp only [bd] at h
  cases e : m S with
  | ok d S1 =>
    rw [e] at h
    intro v F1 ad1 H1 n1 r1 p1
    refine hk F1 ad1 S1 d v H1 n1 (re.mono n1.gr) r1 p1 ?_
    have h : Fin X W RR' σ F ad S H (k d S1) Q := h
    cases e2 : k d S1 with
    | ok d2 S2 =>
      rw [e2] at h
      exact fun v2 F2 ad2 H2 n2 r2 p2 => h v2 F2 ad2 H2 (n1.trans n2) r2 p2
    | ex x S2 =>
      rw [e2] at h
      exact fun c dd F2 ad2 H2 n2 r2 p2 => h c dd F2 ad2 H2 (n1.trans n2) r2 p2
    | no => rw [e2] at h; exact h
  | ex x S1 => rw [e] at h; exact h
  | no => rw [e] at h; exact h
theorem Fin.pure {α β : Type} {X : Cx} {W : WX} {RR : Hp → (Nat → Addr) → Nat → α → β → Prop} {σ : L2.St} {H : Hp} {Q : β → Hp → Prop} {F : Hp} {ad : Nat → Addr} {S : Store} {d : α} {v : β}
    (rs : RS X.K F ad S H) (h : Fin X W RR σ F ad S H (pur d S) Q) (hd : RR F ad S.length d v) : Q v H := h v F ad H .refl rs hd

/-! ### the heap moves -/
section
variable {K : PySem.W.Frag} {F H : Hp} {ad : Nat → Addr} {S : Store} {p : Addr} {o : HO}
theorem F_none (rs : RS K F ad S H) (hp : H p = none) : F p = none := by
  cases q : F p with
  | none => rfl
  | some u => rw [rs.sub p u q] at hp; cases hp
theorem Gr.alloc {L : Nat} (h : F p = none) : Gr F ad L (upd F p o) ad L := ⟨fun a u e => by rw [upd_ne (ne_of_none e h)]; exact e, Nat.le_refl _, fun _ _ => rfl⟩
theorem or_ne {L : Nat} {od : OD} {u : HO} (h : OR K F ad L od u) : (∀ ps, u ≠ .tbl ps) ∧ ∀ c q, u ≠ LamX.CodeO c q := by
  cases od with
  | lst xs => obtain ⟨ys, rfl, _⟩ := h; exact ⟨fun ps z => (by cases z), fun c q z => by unfold LamX.CodeO at z; cases z⟩
  | dct xs => obtain ⟨ys, rfl, _⟩ := h; exact ⟨fun ps z => (by cases z), fun c q z => by unfold LamX.CodeO at z; cases z⟩
theorem tabs_put {T : List (Addr × Str)} {b : Addr} {u : HO} (t : LamX.Tabs T H) (hb : H b = some u) (h1 : ∀ ps, u ≠ .tbl ps) (h2 : ∀ c q, u ≠ LamX.CodeO c q) : LamX.Tabs T (upd H b o) := fun p hp => by
  obtain ⟨ps, e1, e2, e3⟩ := t p hp
  refine ⟨ps, by rw [upd_ne (fun z => by rw [z, hb] at e1; exact h1 ps (Option.some.inj e1))]; exact e1, e2, fun pos cv hc => ?_⟩
  obtain ⟨c, e4, e5⟩ := e3 pos cv hc
  exact ⟨c, e4, by
    have hcb : c ≠ b := fun z => by
      have e6 : H b = some (LamX.CodeO c p.2) := by rw [← z]; exact e5
      rw [hb] at e6
      exact h2 c p.2 (Option.some.inj e6)
    rw [upd_ne hcb]; exact e5⟩
theorem ntb_upd {F : Hp} {p : Addr} {o : HO} (h : ∀ a ps, F a ≠ some (.tbl ps)) (hn : ∀ ps, o ≠ .tbl ps) : ∀ a ps, upd F p o a ≠ some (.tbl ps) := fun a ps e => by
  by_cases ha : a = p
  · subst ha; rw [upd_same] at e; exact hn ps (Option.some.inj e)
  · rw [upd_ne ha] at e; exact h a ps e
theorem RS.alloc (rs : RS K F ad S H) (hp : H p = none) (hn : ∀ ps, o ≠ .tbl ps := by intro ps z; cases z) : RS K (upd F p o) ad S (upd H p o) := by
  have g : Gr F ad S.length (upd F p o) ad S.length := Gr.alloc (F_none rs hp)
  refine ⟨fun a u e => ?_, fun n od e => ?_, rs.inj, rs.tab.ext fun a u e => (by rw [upd_ne (ne_of_none e hp)]; exact e), ntb_upd rs.ntb hn⟩
  · by_cases ha : a = p
    · subst ha; rw [upd_same] at e ⊢; exact e
    · rw [upd_ne ha] at e ⊢; exact rs.sub a u e
  · obtain ⟨h1, u, h2, h3⟩ := rs.liv n od e
    have hn : ad n ≠ p := ne_of_none h2 hp
    exact ⟨by rw [upd_ne hn]; exact h1, u, by rw [upd_ne hn]; exact h2, OR.mono g od u h3⟩
theorem Nx.alloc (rs : RS K F ad S H) (hp : H p = none) : Nx F ad S H (upd F p o) ad S (upd H p o) := by
  refine ⟨(Gr.alloc (L := 0) (ad := ad) (F_none rs hp)).f, fun a u e => ?_, Nat.le_refl _, fun _ _ => rfl, fun n od e => .inl ⟨od, e⟩, fun a u e _ _ => by rw [upd_ne (ne_of_none e hp)]; exact e, fun a e => ?_⟩
  · by_cases ha : a = p
    · subst ha; exact .inr (.inl (.inl hp))
    · rw [upd_ne ha] at e; exact .inl e
  · by_cases ha : a = p
    · subst ha; exact .inl hp
    · unfold Fr at e ⊢; rw [upd_ne ha] at e; exact e

def adn (ad : Nat → Addr) (n : Nat) (p : Addr) : Nat → Addr := fun m => if m = n then p else ad m
theorem adn_same {n : Nat} : adn ad n p n = p := if_pos rfl
theorem adn_ne {n m : Nat} (h : m ≠ n) : adn ad n p m = ad m := if_neg h
theorem Gr.new {L : Nat} : Gr F ad L F (adn ad L p) (L + 1) := ⟨fun _ _ e => e, Nat.le_succ _, fun n h => adn_ne (Nat.ne_of_lt h)⟩
theorem new_cases {od od' : OD} {n : Nat} (e : (S ++ [some od])[n]? = some (some od')) : (n < S.length ∧ S[n]? = some (some od')) ∨ (n = S.length ∧ od' = od) := by
  by_cases hn : n < S.length
  · rw [List.getElem?_append_left hn] at e; exact .inl ⟨hn, e⟩
  · rw [List.getElem?_append_right (by omega)] at e
    have : n - S.length = 0 := by
      have := lt_of_some e
      simp at this; omega
    rw [this] at e
    simp at e
    exact .inr ⟨by omega, e.symm⟩
theorem RS.new {od : OD} (rs : RS K F ad S H) (hp : H p = none) (ho : OR K F (adn ad S.length p) (S.length + 1) od o) : RS K F (adn ad S.length p) (S ++ [some od]) (upd H p o) := by
  have hl : (S ++ [some od]).length = S.length + 1 := by simp
  refine ⟨fun a u e => ?_, fun n od' e => ?_, fun n m od1 od2 e1 e2 e => ?_, rs.tab.ext fun a u e => (by rw [upd_ne (ne_of_none e hp)]; exact e), rs.ntb⟩
  · have := rs.sub a u e
    rw [upd_ne (ne_of_none this hp)]; exact this
  · rw [hl]
    rcases new_cases e with ⟨hn, e'⟩ | ⟨hn, e'⟩
    · rw [adn_ne (Nat.ne_of_lt hn)]
      obtain ⟨h1, u, h2, h3⟩ := rs.liv n od' e'
      exact ⟨h1, u, by rw [upd_ne (ne_of_none h2 hp)]; exact h2, OR.mono Gr.new od' u h3⟩
    · subst hn; subst e'
      rw [adn_same]
      exact ⟨F_none rs hp, o, upd_same, ho⟩
  · rcases new_cases e1 with ⟨hn, e1⟩ | ⟨hn, e1⟩ <;> rcases new_cases e2 with ⟨hm, e2⟩ | ⟨hm, e2⟩
    · rw [adn_ne (Nat.ne_of_lt hn), adn_ne (Nat.ne_of_lt hm)] at e
      exact rs.inj n m _ _ e1 e2 e
    · subst hm
      rw [adn_ne (Nat.ne_of_lt hn), adn_same] at e
      obtain ⟨_, u, h2, _⟩ := rs.liv n _ e1
      rw [e, hp] at h2; cases h2
    · subst hn
      rw [adn_ne (Nat.ne_of_lt hm), adn_same] at e
      obtain ⟨_, u, h2, _⟩ := rs.liv m _ e2
      rw [← e, hp] at h2; cases h2
    · omega
theorem Nx.new {od : OD} (rs : RS K F ad S H) (hp : H p = none) : Nx F ad S H F (adn ad S.length p) (S ++ [some od]) (upd H p o) := by
  refine ⟨fun _ _ e => e, fun a u e => .inl e, by simp, fun n h => adn_ne (Nat.ne_of_lt h), fun n od' e => ?_, fun a u e _ _ => by rw [upd_ne (ne_of_none e hp)]; exact e, fun a e => ?_⟩
  · rcases new_cases e with ⟨hn, e⟩ | ⟨hn, e⟩
    · exact .inl ⟨od', e⟩
    · subst hn; rw [adn_same]; exact .inr (.inl hp)
  · by_cases ha : a = p
    · subst ha; exact .inl hp
    · unfold Fr at e ⊢; rw [upd_ne ha] at e; exact e

theorem set_cases {n m : Nat} {x y : Option OD} (e : (S.set n x)[m]? = some y) : (m = n ∧ y = x) ∨ (m ≠ n ∧ S[m]? = some y) := by
  by_cases h : n = m
  · subst h
    by_cases hl : n < S.length
    · rw [List.getElem?_set_self hl] at e; exact .inl ⟨rfl, (Option.some.inj e).symm⟩
    · rw [List.getElem?_eq_none (by simpa using hl)] at e; cases e
  · rw [List.getElem?_set_ne h] at e; exact .inr ⟨fun q => h q.symm, e⟩
theorem RS.put {n : Nat} {od od' : OD} (rs : RS K F ad S H) (e : S[n]? = some (some od)) (ho : OR K F ad S.length od' o) : RS K F ad (S.set n (some od')) (upd H (ad n) o) := by
  obtain ⟨h1, u, h2, h3⟩ := rs.liv n od e
  refine ⟨fun a u e => ?_, fun m od1 e1 => ?_, fun m k od1 od2 e1 e2 q => ?_, tabs_put rs.tab h2 (or_ne h3).1 (or_ne h3).2, rs.ntb⟩
  · have : a ≠ ad n := fun z => by subst z; rw [h1] at e; cases e
    rw [upd_ne this]; exact rs.sub a u e
  · rw [List.length_set]
    rcases set_cases e1 with ⟨rfl, e3⟩ | ⟨hm, e3⟩
    · cases e3
      exact ⟨h1, o, upd_same, ho⟩
    · obtain ⟨g1, w, g2, g3⟩ := rs.liv m od1 e3
      have : ad m ≠ ad n := fun z => hm (rs.inj m n _ _ e3 e z)
      exact ⟨g1, w, by rw [upd_ne this]; exact g2, g3⟩
  · have live : ∀ m od1, (S.set n (some od'))[m]? = some (some od1) → ∃ od0, S[m]? = some (some od0) := fun m od1 e1 => by
      rcases set_cases e1 with ⟨rfl, _⟩ | ⟨_, e1⟩
      · exact ⟨od, e⟩
      · exact ⟨od1, e1⟩
    obtain ⟨_, g1⟩ := live m od1 e1
    obtain ⟨_, g2⟩ := live k od2 e2
    exact rs.inj m k _ _ g1 g2 q
theorem Nx.put {n : Nat} {od od' : OD} (rs : RS K F ad S H) (e : S[n]? = some (some od)) (hn : ∀ ps, o ≠ .tbl ps := by intro ps z; cases z) : Nx F ad S H F ad (S.set n (some od')) (upd H (ad n) o) := by
  obtain ⟨h1, u, h2, h3⟩ := rs.liv n od e
  refine ⟨fun _ _ e => e, fun a u e => .inl e, by simp, fun _ _ => rfl, fun m od1 e1 => ?_, fun a u q hl _ => ?_, fun a q => ?_⟩
  · rcases set_cases e1 with ⟨rfl, _⟩ | ⟨_, e1⟩
    · exact .inl ⟨od, e⟩
    · exact .inl ⟨od1, e1⟩
  · rw [upd_ne (fun z => hl ⟨n, od, e, z.symm⟩)]; exact q
  · by_cases ha : a = ad n
    · subst ha; exact (fr_no upd_same hn q).elim
    · unfold Fr at q ⊢; rw [upd_ne ha] at q; exact q
/-- a thing of the store that is never changed again becomes plain -/
theorem RS.frz {n : Nat} {od : OD} (rs : RS K F ad S H) (e : S[n]? = some (some od)) (ho : H (ad n) = some o) : RS K (upd F (ad n) o) ad (S.set n none) H := by
  obtain ⟨h1, u, h2, h3⟩ := rs.liv n od e
  have g : Gr F ad S.length (upd F (ad n) o) ad S.length := Gr.alloc h1
  refine ⟨fun a u q => ?_, fun m od1 e1 => ?_, fun m k od1 od2 e1 e2 q => ?_, rs.tab, ntb_upd rs.ntb (by rw [ho] at h2; cases h2; exact (or_ne h3).1)⟩
  · by_cases ha : a = ad n
    · subst ha; rw [upd_same] at q; rw [← q]; exact ho
    · rw [upd_ne ha] at q; exact rs.sub a u q
  · rw [List.length_set]
    rcases set_cases e1 with ⟨_, e3⟩ | ⟨hm, e3⟩
    · cases e3
    · obtain ⟨g1, w, g2, g3⟩ := rs.liv m od1 e3
      have : ad m ≠ ad n := fun z => hm (rs.inj m n _ _ e3 e z)
      exact ⟨by rw [upd_ne this]; exact g1, w, g2, OR.mono g od1 w g3⟩
  · rcases set_cases e1 with ⟨_, e3⟩ | ⟨_, e3⟩
    · cases e3
    · rcases set_cases e2 with ⟨_, e4⟩ | ⟨_, e4⟩
      · cases e4
      · exact rs.inj m k _ _ e3 e4 q
theorem Nx.frz {n : Nat} {od : OD} (rs : RS K F ad S H) (e : S[n]? = some (some od)) : Nx F ad S H (upd F (ad n) o) ad (S.set n none) H := by
  obtain ⟨h1, u, h2, h3⟩ := rs.liv n od e
  refine ⟨(Gr.alloc (L := 0) (ad := ad) h1).f, fun a u q => ?_, by simp, fun _ _ => rfl, fun m od1 e1 => ?_, fun a u q _ _ => q, fun a q => q⟩
  · by_cases ha : a = ad n
    · exact .inr (.inr ⟨n, od, e, ha.symm⟩)
    · rw [upd_ne ha] at q; exact .inl q
  · rcases set_cases e1 with ⟨_, e3⟩ | ⟨_, e3⟩
    · cases e3
    · exact .inl ⟨od1, e3⟩
end

end Fx

end
/-! ## Fx1 -/
section
namespace Fx
open PySem PySem.Spec PyProof.Rows L2
variable [tb : Tabl]
section
variable {X : Cx} {W : WX} {pos : Pos} {a b c e : Expr} {f g f1 f2 f3 : Env → M D}

/-! ### leaves -/
theorem fe_int {i : Int} {j : Nat} : FE X W (.Constant (.int i) j pos) (fun _ => pur (.int i)) := ⟨PE.weak pe_int fun σ H Q ⟨F, ad, env, S, re, rs, h⟩ => Fin.pure rs h rfl⟩
theorem fe_bl {i : Bool} {j : Nat} : FE X W (.Constant (.bool i) j pos) (fun _ => pur (.bl i)) := ⟨PE.weak pe_bl fun σ H Q ⟨F, ad, env, S, re, rs, h⟩ => Fin.pure rs h rfl⟩
theorem fe_non {j : Nat} : FE X W (.Constant .none j pos) (fun _ => pur .non) := ⟨PE.weak pe_non fun σ H Q ⟨F, ad, env, S, re, rs, h⟩ => Fin.pure rs h rfl⟩
theorem fe_str {x : Str} {j : Nat} : FE X W (.Constant (.str x) j pos) (fun _ => pur (.str x)) := ⟨PE.weak pe_str fun σ H Q ⟨F, ad, env, S, re, rs, h⟩ => Fin.pure rs h rfl⟩
def getv (i : Nat) : Env → M D := fun env => match env[i]? with
  | some (some d) => pur d
  | _ => mno
theorem fe_var (i : Nat) {x : Str} (hN : X.N[i]? = some x := by rfl) (hv : Vis X.env.scope x := by first | exact Or.inl rfl | exact Or.inr (Or.inl rfl) | exact Or.inr (Or.inr rfl))
    (hd : (x == ("__debug__" : Str)) = false := by decide) (hcd : (x == ("__classdict__" : Str)) = false := by decide) : FE X W (.Name x pos) (getv i) := by
  refine ⟨PE.weak (pe_var hN hv hd hcd) fun σ H Q ⟨F, ad, env, S, re, rs, h⟩ => ?_⟩
  cases q : env[i]? with
  | none => simp only [getv, q] at h; exact h.elim
  | some d =>
    cases d with
    | none => simp only [getv, q] at h; exact h.elim
    | some d =>
      simp only [getv, q] at h
      obtain ⟨v, h1, h2⟩ := re i d q
      exact ⟨v, h1, Fin.pure rs h h2⟩
/-- a constant of the module -/
theorem fe_glob {x : Str} {d : D} {v : V} {u : Value} (hg : Gl X x) (hm : X.mg x = some u) (r : RelV v u) (hd : ∀ F ad L, DP X.K F ad L d v) (hdb : (x == ("__debug__" : Str)) = false := by decide) : FE X W (.Name x pos) (fun _ => pur d) :=
  ⟨PE.weak (pe_glob hg hm r hdb) fun σ H Q ⟨F, ad, env, S, re, rs, h⟩ => Fin.pure rs h (hd F ad S.length)⟩

/-! ### operators -/
def OpF (X : Cx) (f : Value → Value → Sem Value) (g : D → D → M D) : Prop :=
  ∃ r, OpR X f r ∧ ∀ (W : WX) (σ : L2.St) F ad S H x y v w (Q : VK), RS X.K F ad S H → DP X.K F ad S.length x v → DP X.K F ad S.length y w → Fin X W (DP X.K) σ F ad S H (g x y S) Q → r v w H Q
def bin (g : D → D → M D) (f1 f2 : Env → M D) : Env → M D := fun env => bd (f1 env) fun x => bd (f2 env) fun y => g x y
theorem seq2 {g : D → D → M D} {r : R2} (hg : ∀ (W : WX) (σ : L2.St) F ad S H x y v w (Q : VK), RS X.K F ad S H → DP X.K F ad S.length x v → DP X.K F ad S.length y w → Fin X W (DP X.K) σ F ad S H (g x y S) Q → r v w H Q)
    {σ : L2.St} {H : Hp} {Q : VK} (h : tF X W (bin g f1 f2) σ H Q) : tOp r (tF X W f1) (tF X W f2) σ H Q := by
  obtain ⟨F, ad, env, S, re, rs, h⟩ := h
  refine ⟨F, ad, env, S, re, rs, Fin.seq re h fun F1 ad1 S1 d v H1 n1 re1 rs1 dp1 h1 => ?_⟩
  refine ⟨F1, ad1, env, S1, re1, rs1, Fin.seq re1 h1 fun F2 ad2 S2 d2 w H2 n2 re2 rs2 dp2 h2 => ?_⟩
  exact hg W σ F2 ad2 S2 H2 d d2 v w Q rs2 (DP.mono n2.gr d v dp1) dp2 h2
theorem fe_bin {op : Operator} {g : D → D → M D} (ho : OpF X (binaryOp op) g) (ha : FE X W a f1) (hb : FE X W b f2) : FE X W (.BinOp a op b pos) (bin g f1 f2) := by
  obtain ⟨r, hr, hg⟩ := ho
  exact ⟨PE.weak (pe_op hr ha.run hb.run) fun σ H Q h => seq2 hg h⟩
theorem fe_cmp {op : CmpOp} {g : D → D → M D} (ho : OpF X (compareOp op) g) (ha : FE X W a f1) (hb : FE X W b f2) (hm : behindInMarks op b = false) : FE X W (.Compare a [op] [b] pos) (bin g f1 f2) := by
  obtain ⟨r, hr, hg⟩ := ho
  exact ⟨PE.weak (pe_cmpR hr ha.run hb.run hm) fun σ H Q h => seq2 hg h⟩
/-- a value that is a bool, as a test -/
def asB : D → M Bool
  | .bl c => pur c
  | _ => mno
def tst (f : Env → M D) : Env → M Bool := fun env => bd (f env) asB
theorem ft_val (h : FE X W e f) (he : ∀ whole, isTrue e X.env whole = (do let v ← whole; standAt e.pos; holding [v] (truthy v)) := by intro _; rfl) : FT X W e (tst f) := by
  refine ⟨PT.weak (pt_val h.run he) fun σ H Q ⟨F, ad, env, S, re, rs, h⟩ => ?_⟩
  refine ⟨F, ad, env, S, re, rs, Fin.seq re h fun F1 ad1 S1 d v H1 n1 re1 rs1 dp1 h1 => ?_⟩
  cases d <;> first
    | exact h1.elim
    | exact ⟨_, dp1, Fin.pure rs1 h1 rfl⟩
theorem ft_cmp {op : CmpOp} {g : D → D → M D} (ho : OpF X (compareOp op) g) (ha : FE X W a f1) (hb : FE X W b f2) (hm : behindInMarks op b = false) : FT X W (.Compare a [op] [b] pos) (tst (bin g f1 f2)) := by
  obtain ⟨r, hr, hg⟩ := ho
  refine ⟨PT.weak (pt_cmpR hr ha.run hb.run hm) fun σ H Q h => ?_⟩
  show tOp r (tF X W f1) (tF X W f2) σ H _
  refine seq2 hg ?_
  obtain ⟨F, ad, env, S, re, rs, h⟩ := h
  refine ⟨F, ad, env, S, re, rs, Fin.seq re h fun F1 ad1 S1 d v H1 n1 re1 rs1 dp1 h1 => ?_⟩
  cases d <;> first
    | exact h1.elim
    | exact ⟨_, dp1, Fin.pure rs1 h1 rfl⟩
/-! ### and, or, not -/
def andB (f g : Env → M Bool) : Env → M Bool := fun env => bd (f env) fun c => if c = true then g env else pur false
def orB (f g : Env → M Bool) : Env → M Bool := fun env => bd (f env) fun c => if c = true then pur true else g env
def notB (f : Env → M Bool) : Env → M Bool := fun env => bd (f env) fun c => pur (!c)
section
variable {p q : Env → M Bool} {rest : List Expr}
theorem FW.ft (h : FW X W e p) : FT X W e p := ⟨h.run.pt⟩
theorem fw_and1 (ha : FT X W a p) : FW X W (.BoolOp .And [a] pos) p := ⟨pw_and1 ha.run⟩
theorem fw_or1 (ha : FT X W a p) : FW X W (.BoolOp .Or [a] pos) p := ⟨pw_or1 ha.run⟩
theorem fw_and (ha : FT X W a p) (hb : FW X W (.BoolOp .And (b :: rest) pos) q) : FW X W (.BoolOp .And (a :: b :: rest) pos) (andB p q) := by
  refine ⟨PW.weak (pw_and ha.run hb.run) fun σ H Q ⟨F, ad, env, S, re, rs, h⟩ => ?_⟩
  refine ⟨F, ad, env, S, re, rs, Fin.seq re h fun F1 ad1 S1 d v H1 n1 re1 rs1 dp1 h1 => ?_⟩
  subst dp1
  cases d with
  | true => exact iteT ⟨F1, ad1, env, S1, re1, rs1, by simpa using h1⟩
  | false => exact iteF (Fin.pure (d := false) rs1 (by simpa using h1) rfl)
theorem fw_or (ha : FT X W a p) (hb : FW X W (.BoolOp .Or (b :: rest) pos) q) : FW X W (.BoolOp .Or (a :: b :: rest) pos) (orB p q) := by
  refine ⟨PW.weak (pw_or ha.run hb.run) fun σ H Q ⟨F, ad, env, S, re, rs, h⟩ => ?_⟩
  refine ⟨F, ad, env, S, re, rs, Fin.seq re h fun F1 ad1 S1 d v H1 n1 re1 rs1 dp1 h1 => ?_⟩
  subst dp1
  cases d with
  | true => exact iteT (Fin.pure (d := true) rs1 (by simpa using h1) rfl)
  | false => exact iteF ⟨F1, ad1, env, S1, re1, rs1, by simpa using h1⟩
theorem ft_not (ha : FT X W a p) : FT X W (.UnaryOp .Not a pos) (notB p) := by
  refine ⟨PT.weak (pt_not ha.run) fun σ H Q ⟨F, ad, env, S, re, rs, h⟩ => ?_⟩
  refine ⟨F, ad, env, S, re, rs, Fin.seq re h fun F1 ad1 S1 d v H1 n1 re1 rs1 dp1 h1 => ?_⟩
  subst dp1
  exact Fin.pure (d := !d) rs1 h1 rfl
end
/-- as values -/
def andV (f g : Env → M D) : Env → M D := fun env => bd (f env) fun d => bd (asB d) fun c => if c = true then g env else pur (.bl false)
def orV (f g : Env → M D) : Env → M D := fun env => bd (f env) fun d => bd (asB d) fun c => if c = true then pur (.bl true) else g env
def notV (f : Env → M D) : Env → M D := fun env => bd (f env) fun d => bd (asB d) fun c => pur (.bl (!c))
theorem fe_one {op} (h : FE X W a f) : FE X W (.BoolOp op [a] pos) f := ⟨pe_one h.run⟩
theorem fe_and {rest : List Expr} (ha : FE X W a f) (hb : FE X W (.BoolOp .And (b :: rest) pos) g) : FE X W (.BoolOp .And (a :: b :: rest) pos) (andV f g) := by
  refine ⟨PE.weak (pe_and ha.run hb.run) fun σ H Q ⟨F, ad, env, S, re, rs, h⟩ => ?_⟩
  refine ⟨F, ad, env, S, re, rs, Fin.seq re h fun F1 ad1 S1 d v H1 n1 re1 rs1 dp1 h1 => ?_⟩
  cases d <;> first
    | exact h1.elim
    | skip
  rename_i c
  refine ⟨c, dp1, ?_⟩
  cases c with
  | true => exact iteT ⟨F1, ad1, env, S1, re1, rs1, h1⟩
  | false => exact iteF (Fin.pure (d := D.bl false) rs1 h1 rfl)
theorem fe_or {rest : List Expr} (ha : FE X W a f) (hb : FE X W (.BoolOp .Or (b :: rest) pos) g) : FE X W (.BoolOp .Or (a :: b :: rest) pos) (orV f g) := by
  refine ⟨PE.weak (pe_or ha.run hb.run) fun σ H Q ⟨F, ad, env, S, re, rs, h⟩ => ?_⟩
  refine ⟨F, ad, env, S, re, rs, Fin.seq re h fun F1 ad1 S1 d v H1 n1 re1 rs1 dp1 h1 => ?_⟩
  cases d <;> first
    | exact h1.elim
    | skip
  rename_i c
  refine ⟨c, dp1, ?_⟩
  cases c with
  | true => exact iteT (Fin.pure (d := D.bl true) rs1 h1 rfl)
  | false => exact iteF ⟨F1, ad1, env, S1, re1, rs1, h1⟩
theorem fe_not (ha : FE X W a f) : FE X W (.UnaryOp .Not a pos) (notV f) := by
  refine ⟨PE.weak (pe_not ha.run) fun σ H Q ⟨F, ad, env, S, re, rs, h⟩ => ?_⟩
  refine ⟨F, ad, env, S, re, rs, Fin.seq re h fun F1 ad1 S1 d v H1 n1 re1 rs1 dp1 h1 => ?_⟩
  cases d <;> first
    | exact h1.elim
    | exact ⟨_, dp1, Fin.pure rs1 h1 rfl⟩
def iteV (p : Env → M Bool) (f g : Env → M D) : Env → M D := fun env => bd (p env) fun c => if c = true then f env else g env
theorem fe_ite {p : Env → M Bool} (hc : FT X W c p) (ha : FE X W a f) (hb : FE X W b g) : FE X W (.IfExp c a b pos) (iteV p f g) := by
  refine ⟨PE.weak (pe_ifExp hc.run ha.run hb.run) fun σ H Q ⟨F, ad, env, S, re, rs, h⟩ => ?_⟩
  refine ⟨F, ad, env, S, re, rs, Fin.seq re h fun F1 ad1 S1 d v H1 n1 re1 rs1 dp1 h1 => ?_⟩
  subst dp1
  cases d with
  | true => exact iteT ⟨F1, ad1, env, S1, re1, rs1, by simpa using h1⟩
  | false => exact iteF ⟨F1, ad1, env, S1, re1, rs1, by simpa using h1⟩
/-- a op b op' c -/
def chn (g g' : D → D → M D) (f1 f2 f3 : Env → M D) : Env → M D := fun env => bd (f1 env) fun x => bd (f2 env) fun y => bd (g x y) fun z => bd (asB z) fun k => if k = true then bd (f3 env) fun w => g' y w else pur (.bl false)
theorem chn_seq {g g' : D → D → M D} {r r' : R2} (hg : ∀ (W : WX) (σ : L2.St) F ad S H x y v w (Q : VK), RS X.K F ad S H → DP X.K F ad S.length x v → DP X.K F ad S.length y w → Fin X W (DP X.K) σ F ad S H (g x y S) Q → r v w H Q)
    (hg' : ∀ (W : WX) (σ : L2.St) F ad S H x y v w (Q : VK), RS X.K F ad S H → DP X.K F ad S.length x v → DP X.K F ad S.length y w → Fin X W (DP X.K) σ F ad S H (g' x y S) Q → r' v w H Q)
    {σ : L2.St} {H : Hp} {Q : VK} (h : tF X W (chn g g' f1 f2 f3) σ H Q) : tChain r r' (tF X W f1) (tF X W f2) (tF X W f3) σ H Q := by
  obtain ⟨F, ad, env, S, re, rs, h⟩ := h
  refine ⟨F, ad, env, S, re, rs, Fin.seq re h fun F1 ad1 S1 x v H1 n1 re1 rs1 dp1 h1 => ?_⟩
  refine ⟨F1, ad1, env, S1, re1, rs1, Fin.seq re1 h1 fun F2 ad2 S2 y w H2 n2 re2 rs2 dp2 h2 => ?_⟩
  refine hg W σ F2 ad2 S2 H2 x y v w _ rs2 (DP.mono n2.gr x v dp1) dp2 (Fin.seq re2 h2 fun F3 ad3 S3 z u H3 n3 re3 rs3 dp3 h3 => ?_)
  cases z <;> first
    | exact h3.elim
    | skip
  rename_i k
  refine ⟨k, dp3, ?_⟩
  cases k with
  | false => exact iteF (Fin.pure (d := D.bl false) rs3 h3 rfl)
  | true =>
    refine iteT ⟨F3, ad3, env, S3, re3, rs3, Fin.seq re3 h3 fun F4 ad4 S4 t t' H4 n4 re4 rs4 dp4 h4 => ?_⟩
    exact hg' W σ F4 ad4 S4 H4 y t w t' Q rs4 (DP.mono (n3.trans n4).gr y w dp2) dp4 h4
theorem fe_chain {op op' : CmpOp} {g g' : D → D → M D} (ho : OpF X (compareOp op) g) (ho' : OpF X (compareOp op') g') (ha : FE X W a f1) (hb : FE X W b f2) (hc : FE X W c f3) (hm : lastMarks [op, op'] [b, c] = false := by with_unfolding_all rfl) :
    FE X W (.Compare a [op, op'] [b, c] pos) (chn g g' f1 f2 f3) := by
  obtain ⟨r, hr, hg⟩ := ho
  obtain ⟨r', hr', hg'⟩ := ho'
  exact ⟨PE.weak (pe_chain hr hr' ha.run hb.run hc.run hm) fun σ H Q h => chn_seq hg hg' h⟩
theorem ft_chain {op op' : CmpOp} {g g' : D → D → M D} (ho : OpF X (compareOp op) g) (ho' : OpF X (compareOp op') g') (ha : FE X W a f1) (hb : FE X W b f2) (hc : FE X W c f3) (hm : lastMarks [op, op'] [b, c] = false := by with_unfolding_all rfl) :
    FT X W (.Compare a [op, op'] [b, c] pos) (tst (chn g g' f1 f2 f3)) := by
  obtain ⟨r, hr, hg⟩ := ho
  obtain ⟨r', hr', hg'⟩ := ho'
  refine ⟨PT.weak (pt_chain hr hr' ha.run hb.run hc.run hm) fun σ H Q h => ?_⟩
  refine chn_seq hg hg' ?_
  obtain ⟨F, ad, env, S, re, rs, h⟩ := h
  refine ⟨F, ad, env, S, re, rs, Fin.seq re h fun F1 ad1 S1 d v H1 n1 re1 rs1 dp1 h1 => ?_⟩
  cases d <;> first
    | exact h1.elim
    | exact ⟨_, dp1, Fin.pure rs1 h1 rfl⟩

/-! ### lists of expressions, displays -/
section
variable {es : List Expr} {t : Env → M (List D)}
theorem fa_nil : FA X W [] (fun _ => pur []) := ⟨PA.weak pa_nil fun σ H Q ⟨F, ad, env, S, re, rs, h⟩ => Fin.pure rs h rfl⟩
def cns (f : Env → M D) (t : Env → M (List D)) : Env → M (List D) := fun env => bd (f env) fun d => bd (t env) fun r => pur (d :: r)
theorem fa_cons (ha : FE X W e f) (hr : FA X W es t) (hs : starEach (e :: es) X.env = (false, eval e X.env) :: starEach es X.env := by rfl) : FA X W (e :: es) (cns f t) := by
  refine ⟨PA.weak (pa_cons ha.run hr.run hs) fun σ H Q ⟨F, ad, env, S, re, rs, h⟩ => ?_⟩
  refine ⟨F, ad, env, S, re, rs, Fin.seq re h fun F1 ad1 S1 d v H1 n1 re1 rs1 dp1 h1 => ?_⟩
  refine ⟨F1, ad1, env, S1, re1, rs1, Fin.seq re1 h1 fun F2 ad2 S2 ds vs H2 n2 re2 rs2 dp2 h2 => ?_⟩
  exact Fin.pure (v := v :: vs) rs2 h2 ⟨v, vs, rfl, DP.mono n2.gr d v dp1, dp2⟩
/-- a new plain list, a new tuple -/
def mkL (ds : List D) : M D := if ds.length ≤ sizeLine then pur (.lst ds) else mno
def mkT (ds : List D) : M D := if ds.length ≤ sizeLine then pur (.tup ds) else mno
/-- a new thing of the store -/
def mkO (od : OD) : M D := fun S => .ok (.obj S.length) (S ++ [some od])
def mkN (ds : List D) : M D := if ds.length ≤ sizeLine then mkO (.lst ds) else mno
theorem fin_mkL {σ : L2.St} {F : Hp} {ad : Nat → Addr} {S : Store} {H : Hp} {Q : VK} {ds : List D} {vs : List V} (rs : RS X.K F ad S H) (dp : DPs X.K F ad S.length ds vs) (h : Fin X W (DP X.K) σ F ad S H (mkL ds S) Q) :
    vs.length ≤ sizeLine ∧ ∀ p, H p = none → Q (.ref p) (upd H p (.lst vs)) := by
  unfold mkL at h
  split at h
  · rename_i hl
    refine ⟨by rw [← dp.length]; exact hl, fun p hp => ?_⟩
    exact h (.ref p) _ ad _ (Nx.alloc rs hp) (rs.alloc hp) ⟨p, vs, rfl, upd_same, DPs.mono (Gr.alloc (F_none rs hp)) ds vs dp⟩
  · exact h.elim
theorem fin_mkT {σ : L2.St} {F : Hp} {ad : Nat → Addr} {S : Store} {H : Hp} {Q : VK} {ds : List D} {vs : List V} (rs : RS X.K F ad S H) (dp : DPs X.K F ad S.length ds vs) (h : Fin X W (DP X.K) σ F ad S H (mkT ds S) Q) :
    vs.length ≤ sizeLine ∧ ∀ p o, H p = none → o.dict = none → Q (.ref p) (upd H p (.frz o (.tup vs))) := by
  unfold mkT at h
  split at h
  · rename_i hl
    refine ⟨by rw [← dp.length]; exact hl, fun p o hp ho => ?_⟩
    exact h (.ref p) _ ad _ (Nx.alloc rs hp) (rs.alloc hp) ⟨p, vs, rfl, .inl ⟨o, upd_same, ho⟩, DPs.mono (Gr.alloc (F_none rs hp)) ds vs dp⟩
  · exact h.elim
theorem fin_mkO {σ : L2.St} {F : Hp} {ad : Nat → Addr} {S : Store} {H : Hp} {Q : VK} {od : OD} {o : HO} (rs : RS X.K F ad S H) (ho : OR X.K F ad S.length od o) (h : Fin X W (DP X.K) σ F ad S H (mkO od S) Q) :
    ∀ p, H p = none → Q (.ref p) (upd H p o) := fun p hp =>
  h (.ref p) F _ _ (Nx.new rs hp) (rs.new hp (OR.mono Gr.new od o ho)) ⟨by simp, by rw [adn_same]⟩
theorem fin_mkN {σ : L2.St} {F : Hp} {ad : Nat → Addr} {S : Store} {H : Hp} {Q : VK} {ds : List D} {vs : List V} (rs : RS X.K F ad S H) (dp : DPs X.K F ad S.length ds vs) (h : Fin X W (DP X.K) σ F ad S H (mkN ds S) Q) :
    vs.length ≤ sizeLine ∧ ∀ p, H p = none → Q (.ref p) (upd H p (.lst vs)) := by
  unfold mkN at h
  split at h
  · rename_i hl
    exact ⟨by rw [← dp.length]; exact hl, fin_mkO (od := .lst ds) rs ⟨vs, rfl, dp⟩ h⟩
  · exact h.elim
def dsp (mk : List D → M D) (t : Env → M (List D)) : Env → M D := fun env => bd (t env) mk
/-- (a, b, ..): a tuple without a dict -/
def tTupC (t : TA) : TE := fun σ H Q => t σ H fun xs H1 => xs.length ≤ sizeLine ∧ ∀ (p : Addr) (o : Obj), H1 p = none → o.dict = none → Q (.ref p) (upd H1 p (.frz o (.tup xs)))
theorem pe_tupC {x1} {t : TA} (h : PA X es t) : PE X (.Tuple es x1 pos) (tTupC t) := by
  refine ⟨fun pins s σ H Q I hq => ?_⟩
  refine wpAny_Tuple_spliced (thn (h.run pos pins s σ H _ I hq) fun us s1 ⟨xs, H1, I1, r, z, q⟩ => ⟨by rw [← r.length]; exact z, ?_⟩)
  have hf : H1 s1.heap.objs.size = none := I1.hok.fresh (Nat.le_refl _)
  refine ⟨.ref s1.heap.objs.size, upd H1 s1.heap.objs.size (.frz _ (.tup xs)), I1.laid (t' := s1.toks) (fun b u e => Heap.get?_push_of_some _ e) (Nat.le_refl _) ⟨Heap.get?_push_size _ rfl, ?_⟩, rfl, q _ _ hf rfl⟩
  exact ⟨z, us, r, ⟨_, Heap.get?_push_size _ rfl, rfl, _, rfl⟩⟩
theorem fe_tup {x1} (h : FA X W es t) : FE X W (.Tuple es x1 pos) (dsp mkT t) :=
  ⟨PE.weak (pe_tupC h.run) fun σ H Q ⟨F, ad, env, S, re, rs, h⟩ => ⟨F, ad, env, S, re, rs, Fin.seq re h fun F1 ad1 S1 ds vs H1 n1 re1 rs1 dp1 h1 => fin_mkT rs1 dp1 h1⟩⟩
theorem fe_lst (h : FA X W es t) : FE X W (.List es pos) (dsp mkL t) :=
  ⟨PE.weak (pe_lst h.run) fun σ H Q ⟨F, ad, env, S, re, rs, h⟩ => ⟨F, ad, env, S, re, rs, Fin.seq re h fun F1 ad1 S1 ds vs H1 n1 re1 rs1 dp1 h1 => fin_mkL rs1 dp1 h1⟩⟩
theorem fe_new (h : FA X W es t) : FE X W (.List es pos) (dsp mkN t) :=
  ⟨PE.weak (pe_lst h.run) fun σ H Q ⟨F, ad, env, S, re, rs, h⟩ => ⟨F, ad, env, S, re, rs, Fin.seq re h fun F1 ad1 S1 ds vs H1 n1 re1 rs1 dp1 h1 => fin_mkN rs1 dp1 h1⟩⟩
end
end
end Fx

end
/-! ## Fx2 -/
section
namespace Fx
open PySem PySem.Spec PyProof.Rows L2
variable [tb : Tabl]

/-! ### lists, wherever they stand -/
def seqM : D → M (List D)
  | .lst xs => pur xs
  | .obj n => fun S => match S[n]? with
    | some (some (.lst xs)) => .ok xs S
    | _ => .no
  | _ => mno
def seqL : D → M (List D)
  | .scr ns => pur (ns.map D.int)
  | d => seqM d
def seqLT : D → M (List D)
  | .tup xs => pur xs
  | d => seqL d
section
variable {X : Cx} {F : Hp} {ad : Nat → Addr} {S : Store} {H : Hp}
theorem dps_ints {K : PySem.W.Frag} {L : Nat} : ∀ ns : List Int, DPs K F ad L (ns.map D.int) (ns.map V.int)
  | [] => rfl
  | n :: ns => ⟨.int n, ns.map V.int, rfl, rfl, dps_ints ns⟩
theorem seqM_at {d : D} {v : V} {xs : List D} {S' : Store} (rs : RS X.K F ad S H) (dp : DP X.K F ad S.length d v) (h : seqM d S = .ok xs S') :
    S' = S ∧ ∃ a vs, v = .ref a ∧ H a = some (.lst vs) ∧ DPs X.K F ad S.length xs vs := by
  cases d with
  | lst ds =>
    obtain ⟨a, vs, e, h1, h2⟩ := dp
    cases h
    exact ⟨rfl, a, vs, e, rs.sub _ _ h1, h2⟩
  | obj n =>
    obtain ⟨hn, e⟩ := dp
    simp only [seqM] at h
    split at h
    · rename_i ys q
      cases h
      obtain ⟨h1, o, h2, vs, h3, h4⟩ := rs.liv n _ q
      subst h3
      exact ⟨rfl, ad n, vs, e, h2, h4⟩
    · cases h
  | scr ns => cases h
  | err a dd ns ds => cases h
  | utp _ => cases h
  | non => cases h
  | bl _ => cases h
  | int _ => cases h
  | str _ => cases h
  | tup _ => cases h
theorem seqL_at {d : D} {v : V} {xs : List D} {S' : Store} (rs : RS X.K F ad S H) (dp : DP X.K F ad S.length d v) (h : seqL d S = .ok xs S') :
    S' = S ∧ ∃ a vs, v = .ref a ∧ SqL X.K H a vs ∧ DPs X.K F ad S.length xs vs := by
  cases d with
  | scr ns =>
    obtain ⟨a, e1, e2⟩ := dp
    cases h
    exact ⟨rfl, a, _, e1, sqL_mono rs.sub e2, dps_ints ns⟩
  | _ =>
    simp only [seqL] at h
    obtain ⟨e, a, vs, e1, e2, e3⟩ := seqM_at rs dp h
    exact ⟨e, a, vs, e1, SqL.of e2, e3⟩
theorem seqLT_at {d : D} {v : V} {xs : List D} {S' : Store} (rs : RS X.K F ad S H) (dp : DP X.K F ad S.length d v) (h : seqLT d S = .ok xs S') :
    S' = S ∧ ∃ a vs, v = .ref a ∧ (SqL X.K H a vs ∨ SqT X.K H a vs) ∧ DPs X.K F ad S.length xs vs := by
  cases d with
  | tup ds =>
    obtain ⟨a, vs, e, h1, h2⟩ := dp
    cases h
    exact ⟨rfl, a, vs, e, .inr (sqT_mono rs.sub h1.sq), h2⟩
  | _ =>
    simp only [seqLT] at h
    obtain ⟨e, a, vs, e1, e2, e3⟩ := seqL_at rs dp h
    exact ⟨e, a, vs, e1, .inl e2, e3⟩
theorem seqM_ex {d : D} {e : Ex} {S' : Store} (h : seqM d S = .ex e S') : False := by
  cases d <;> simp [seqM, pur, mno] at h
  split at h <;> cases h
theorem seqL_ex {d : D} {e : Ex} {S' : Store} (h : seqL d S = .ex e S') : False := by
  cases d with
  | scr ns => cases h
  | _ => (simp only [seqL] at h; exact seqM_ex h)
theorem seqLT_ex {d : D} {e : Ex} {S' : Store} (h : seqLT d S = .ex e S') : False := by
  cases d with
  | tup ns => cases h
  | _ => (simp only [seqLT] at h; exact seqL_ex h)
theorem opt_ok {α : Type} {o : Option α} {a : α} {S S' : Store} (h : opt o S = .ok a S') : S' = S ∧ o = some a := by
  cases o with
  | none => cases h
  | some b => cases h; exact ⟨rfl, rfl⟩
theorem opt_ex {α : Type} {o : Option α} {e : Ex} {S S' : Store} (h : opt o S = .ex e S') : False := by cases o <;> cases h
/-- a pure look, then the rest -/
theorem Fin.look {α β γ : Type} {W : WX} {RR : Hp → (Nat → Addr) → Nat → α → β → Prop} {σ : L2.St} {m : M γ} {k : γ → M α} {Q : β → Hp → Prop} (h : Fin X W RR σ F ad S H (bd m k S) Q) (hx : ∀ e S', m S = .ex e S' → False) :
    ∃ c S1, m S = .ok c S1 ∧ Fin X W RR σ F ad S H (k c S1) Q := by
  simp only [bd] at h
  cases e : m S with
  | ok c S1 => rw [e] at h; exact ⟨c, S1, rfl, h⟩
  | ex x S1 => exact (hx x S1 e).elim
  | no => rw [e] at h; exact h.elim
end

/-! ### operators -/
def b2 (b : Bool) : Int := if b = true then 1 else 0
def catL (mk : List D → M D) (x y : D) : M D := bd (seqM x) fun xs => bd (seqM y) fun ys => mk (xs ++ ys)
def addD (mk : List D → M D) : D → D → M D
  | .int i, .int j => pur (.int (i + j))
  | .bl p, .int j => pur (.int (b2 p + j))
  | .int i, .bl p => pur (.int (i + b2 p))
  | .str x, .str y => if x.length + y.length ≤ sizeLine then pur (.str (x ++ y)) else mno
  | .tup xs, .tup ys => if xs.length + ys.length ≤ sizeLine then pur (.tup (xs ++ ys)) else mno
  | .lst xs, y => catL mk (.lst xs) y
  | .obj n, y => catL mk (.obj n) y
  | _, _ => mno
def subD : D → D → M D
  | .int i, .int j => pur (.int (i - j))
  | .bl p, .int j => pur (.int (b2 p - j))
  | .int i, .bl p => pur (.int (i - b2 p))
  | _, _ => mno
def negD : D → M D
  | .int i => pur (.int (-i))
  | _ => mno
def modD : D → D → M D
  | .int i, .int j => if j ≠ 0 then pur (.int (i.fmod j)) else mno
  | _, _ => mno
def fdivD : D → D → M D
  | .int i, .int j => if j ≠ 0 ∧ j.natAbs < 1073741824 then pur (.int (i.fdiv j)) else mno
  | _, _ => mno
def powD : D → D → M D
  | .int i, .int j => if 0 ≤ j ∧ j ≤ 1000000 ∧ i.natAbs < 2 ^ 64 then pur (.int (i ^ j.toNat)) else mno
  | _, _ => mno
def repL (ds : List D) (k : Int) : M D := if -(2 ^ 63) ≤ k ∧ k < 2 ^ 63 ∧ ds.length * k.toNat ≤ sizeLine then pur (.lst (List.replicate k.toNat ds).flatten) else mno
def mulD : D → D → M D
  | .int i, .int j => if (-(2 ^ 64) < i ∧ i < 2 ^ 64) ∨ (-(2 ^ 64) < j ∧ j < 2 ^ 64) then pur (.int (i * j)) else mno
  | .lst ds, .int k => repL ds k
  | .str x, .int n => if x.length ≤ 16 ∧ -(2 ^ 63) ≤ n ∧ n ≤ 1048576 then pur (.str (Txt.mul x n)) else mno
  | _, _ => mno
def ltD : D → D → M D
  | .int i, .int j => pur (.bl (decide (i < j)))
  | .str x, .str y => pur (.bl (decide (x.cps.toList < y.cps.toList)))
  | _, _ => mno
def leD : D → D → M D
  | .int i, .int j => pur (.bl (decide (i ≤ j)))
  | .str x, .str y => pur (.bl (!decide (y.cps.toList < x.cps.toList)))
  | _, _ => mno
def gtD : D → D → M D
  | .int i, .int j => pur (.bl (decide (j < i)))
  | .str x, .str y => pur (.bl (decide (y.cps.toList < x.cps.toList)))
  | _, _ => mno
def geD : D → D → M D
  | .int i, .int j => pur (.bl (decide (j ≤ i)))
  | .str x, .str y => pur (.bl (!decide (x.cps.toList < y.cps.toList)))
  | _, _ => mno

section
variable {X : Cx}
theorem op_add_bi : OpR X (binaryOp .Add) (fun x y H Q => ∃ k i, x = .bl k ∧ y = .int i ∧ Q (.int (b2 k + i)) H) := by
  intro pins s σ H x y v u Q I rx ry h
  obtain ⟨k, i, rfl, rfl, q⟩ := h
  cases rx
  obtain ⟨t, rfl⟩ := ry
  exact PySem.IntBool.add_bool_int ⟨.int (b2 k + i), H, I.tok _, ⟨_, rfl⟩, q⟩
theorem op_sub_bi : OpR X (binaryOp .Sub) (fun x y H Q => ∃ k i, x = .bl k ∧ y = .int i ∧ Q (.int (b2 k - i)) H) := by
  intro pins s σ H x y v u Q I rx ry h
  obtain ⟨k, i, rfl, rfl, q⟩ := h
  cases rx
  obtain ⟨t, rfl⟩ := ry
  exact PySem.IntBool.sub_bool_int ⟨.int (b2 k - i), H, I.tok _, ⟨_, rfl⟩, q⟩
theorem op_sub_ib : OpR X (binaryOp .Sub) (fun x y H Q => ∃ i k, x = .int i ∧ y = .bl k ∧ Q (.int (i - b2 k)) H) := by
  intro pins s σ H x y v u Q I rx ry h
  obtain ⟨i, k, rfl, rfl, q⟩ := h
  obtain ⟨t, rfl⟩ := rx
  cases ry
  exact PySem.IntBool.sub_int_bool ⟨.int (i - b2 k), H, I.tok _, ⟨_, rfl⟩, q⟩
theorem of_sub : OpF X (binaryOp .Sub) subD := by
  refine ⟨_, op_sub.or (op_sub_bi.or op_sub_ib), fun W σ F ad S H x y v w Q rs dx dy h => ?_⟩
  cases x <;> cases y <;> first
    | exact h.elim
    | skip
  · exact .inr (.inl ⟨_, _, dx, dy, Fin.pure rs h rfl⟩)
  · exact .inr (.inr ⟨_, _, dx, dy, Fin.pure rs h rfl⟩)
  · exact .inl ⟨_, _, dx, dy, Fin.pure rs h rfl⟩
/-- a maker of lists, plain or of the store -/
def MkOk (X : Cx) (mk : List D → M D) : Prop := ∀ (W : WX) (σ : L2.St) F ad S H (Q : VK) (ds : List D) (vs : List V), RS X.K F ad S H → DPs X.K F ad S.length ds vs → Fin X W (DP X.K) σ F ad S H (mk ds S) Q →
  vs.length ≤ sizeLine ∧ ∀ p, H p = none → Q (.ref p) (upd H p (.lst vs))
theorem mk_L : MkOk X mkL := fun _ _ _ _ _ _ _ _ _ rs dp h => fin_mkL rs dp h
theorem mk_N : MkOk X mkN := fun _ _ _ _ _ _ _ _ _ rs dp h => fin_mkN rs dp h
theorem catL_ok {mk : List D → M D} (hm : MkOk X mk) {W : WX} {σ : L2.St} {F ad S H} {x y : D} {v w : V} {Q : VK} (rs : RS X.K F ad S H) (dx : DP X.K F ad S.length x v) (dy : DP X.K F ad S.length y w)
    (h : Fin X W (DP X.K) σ F ad S H (catL mk x y S) Q) : rCat v w H Q := by
  obtain ⟨xs, S1, e1, h⟩ := Fin.look h fun _ _ => seqM_ex
  obtain ⟨rfl, a, vs, rfl, ha, da⟩ := seqM_at rs dx e1
  obtain ⟨ys, S2, e2, h⟩ := Fin.look h fun _ _ => seqM_ex
  obtain ⟨rfl, b, us, rfl, hb, db⟩ := seqM_at rs dy e2
  obtain ⟨hl, k⟩ := hm W σ F ad _ H Q _ _ rs (da.append db) h
  exact ⟨a, b, vs, us, rfl, rfl, ha, hb, by rw [List.length_append] at hl; exact hl, k⟩
/-- t + u: a tuple without a dict -/
def rCatC (K : PySem.W.Frag) : R2 := fun x y H Q => ∃ a b xs ys, x = .ref a ∧ y = .ref b ∧ SqT K H a xs ∧ SqT K H b ys ∧ xs.length + ys.length ≤ sizeLine ∧
  (xs = [] → Q (.ref b) H) ∧ (xs ≠ [] → ys = [] → Q (.ref a) H) ∧ (xs ≠ [] → ys ≠ [] → ∀ (p : Addr) (o : Obj), H p = none → o.dict = none → Q (.ref p) (upd H p (.frz o (.tup (xs ++ ys)))))
theorem op_catC : OpR X (binaryOp .Add) (rCatC X.K) := by
  intro pins s σ H x y v u Q I rx ry h
  obtain ⟨a, b, xs, ys, rfl, rfl, ha, hb, hz, q0, q1, q2⟩ := h
  by_cases hx : xs = []
  · exact op_catA pins s σ H _ _ v u Q I rx ry ⟨a, b, xs, ys, rfl, rfl, ha, hb, hz, q0, fun z => absurd hx z, fun z => absurd hx z⟩
  · cases rx
    cases ry
    obtain ⟨its, r1, p1, _⟩ := I.tuple ha
    obtain ⟨its2, r2, p2, _⟩ := I.tuple hb
    refine HT.cat_tup p1 p2 (fun z => hx (r1.nil_iff.mp z)) (fun z => ⟨.ref a, H, I, rfl, q1 hx (r2.nil_iff.mp z)⟩) (fun z => ?_) (by rw [← r1.length, ← r2.length]; exact hz)
    refine ⟨.ref s.heap.objs.size, _, I.laid (t' := s.toks) (o := .frz _ (.tup (xs ++ ys))) (fun b ob q => Heap.get?_push_of_some _ q) (Nat.le_refl _) ⟨Heap.get?_push_size _ rfl, ?_⟩, rfl, q2 hx (fun w => z (r2.nil_iff.mpr w)) _ _ (I.hok.fresh (Nat.le_refl _)) rfl⟩
    exact ⟨by rw [List.length_append]; exact hz, _, r1.append r2, IsTup.new _ _⟩
theorem of_add {mk : List D → M D} (hm : MkOk X mk) : OpF X (binaryOp .Add) (addD mk) := by
  refine ⟨_, op_add.or (op_add_bi.or (op_add_ib.or (op_add_str.or (op_catC.or op_cat)))), fun W σ F ad S H x y v w Q rs dx dy h => ?_⟩
  cases x with
  | int i =>
    cases y <;> first
      | exact h.elim
      | skip
    · exact .inr (.inr (.inl ⟨_, _, dx, dy, Fin.pure rs h rfl⟩))
    · exact .inl ⟨_, _, dx, dy, Fin.pure rs h rfl⟩
  | bl p =>
    cases y <;> first
      | exact h.elim
      | skip
    exact .inr (.inl ⟨_, _, dx, dy, Fin.pure rs h rfl⟩)
  | str z =>
    cases y <;> first
      | exact h.elim
      | skip
    rename_i z2
    have h : Fin X W (DP X.K) σ F ad S H ((if z.length + z2.length ≤ sizeLine then pur (.str (z ++ z2)) else mno : M D) S) Q := h
    split at h
    · rename_i hl
      exact .inr (.inr (.inr (.inl ⟨_, _, dx, dy, hl, Fin.pure rs h rfl⟩)))
    · exact h.elim
  | tup xs =>
    cases y <;> first
      | exact h.elim
      | skip
    rename_i ys
    have h : Fin X W (DP X.K) σ F ad S H ((if xs.length + ys.length ≤ sizeLine then pur (.tup (xs ++ ys)) else mno : M D) S) Q := h
    split at h
    · rename_i hl
      obtain ⟨a, vs, rfl, ha, da⟩ := dx
      obtain ⟨b, us, rfl, hb, db⟩ := dy
      refine .inr (.inr (.inr (.inr (.inl ⟨a, b, vs, us, rfl, rfl, sqT_mono rs.sub ha.sq, sqT_mono rs.sub hb.sq, by rw [← da.length, ← db.length]; exact hl, fun e => ?_, fun _ e => ?_, fun _ _ p o hp ho => ?_⟩))))
      · subst e
        cases (List.length_eq_zero_iff.mp da.length)
        exact Fin.pure rs h ⟨b, us, rfl, hb, db⟩
      · subst e
        cases (List.length_eq_zero_iff.mp db.length)
        exact Fin.pure rs h ⟨a, vs, rfl, ha, by simpa using da⟩
      · exact h (.ref p) _ ad _ (Nx.alloc rs hp) (rs.alloc hp) ⟨p, _, rfl, .inl ⟨o, upd_same, ho⟩, DPs.mono (Gr.alloc (F_none rs hp)) _ _ (da.append db)⟩
    · exact h.elim
  | lst xs =>
    exact .inr (.inr (.inr (.inr (.inr (catL_ok hm rs dx dy h)))))
  | obj n =>
    exact .inr (.inr (.inr (.inr (.inr (catL_ok hm rs dx dy h)))))
  | non => exact h.elim
  | scr _ => exact h.elim
  | err a dd ns ds => exact h.elim
  | utp _ => exact h.elim

/-- if the condition holds -/
theorem Fin.ift {α β : Type} {W : WX} {RR : Hp → (Nat → Addr) → Nat → α → β → Prop} {σ : L2.St} {c : Prop} [Decidable c] {m : M α} {F ad S H} {Q : β → Hp → Prop} (h : Fin X W RR σ F ad S H ((if c then m else mno : M α) S) Q) :
    c ∧ Fin X W RR σ F ad S H (m S) Q := by
  split at h
  · exact ⟨by assumption, h⟩
  · exact h.elim
theorem of_mod : OpF X (binaryOp .Mod) modD := by
  refine ⟨_, op_modN, fun W σ F ad S H x y v w Q rs dx dy h => ?_⟩
  cases x <;> cases y <;> first
    | exact h.elim
    | skip
  obtain ⟨c, h⟩ := Fin.ift h
  exact ⟨_, _, dx, dy, c, Fin.pure rs h rfl⟩
theorem of_fdiv : OpF X (binaryOp .FloorDiv) fdivD := by
  refine ⟨_, op_fdivN, fun W σ F ad S H x y v w Q rs dx dy h => ?_⟩
  cases x <;> cases y <;> first
    | exact h.elim
    | skip
  obtain ⟨c, h⟩ := Fin.ift h
  exact ⟨_, _, dx, dy, c, Fin.pure rs h rfl⟩
theorem of_pow : OpF X (binaryOp .Pow) powD := by
  refine ⟨_, op_pow, fun W σ F ad S H x y v w Q rs dx dy h => ?_⟩
  cases x <;> cases y <;> first
    | exact h.elim
    | skip
  obtain ⟨c, h⟩ := Fin.ift h
  exact ⟨_, _, dx, dy, c, Fin.pure rs h rfl⟩
theorem op_mul_str : OpR X (binaryOp .Mult) (fun x y H Q => ∃ z n, x = .str z ∧ y = .int n ∧ (z.length ≤ 16 ∧ -(2 ^ 63) ≤ n ∧ n ≤ 1048576) ∧ Q (.str (Txt.mul z n)) H) := by
  intro pins s σ H x y v u Q I rx ry h
  obtain ⟨z, n, rfl, rfl, ⟨h1, h2, h3⟩, q⟩ := h
  obtain ⟨t, rfl⟩ := rx
  obtain ⟨t', rfl⟩ := ry
  exact PySem.W.KXi.mul rfl h1 h2 h3 fun t' k _ _ => ⟨.str (Txt.mul z n), H, I.tok _, ⟨_, rfl⟩, q⟩
theorem of_mul : OpF X (binaryOp .Mult) mulD := by
  refine ⟨_, op_mul.or (op_mul_str.or op_rep), fun W σ F ad S H x y v w Q rs dx dy h => ?_⟩
  cases x <;> cases y <;> first
    | exact h.elim
    | skip
  · obtain ⟨c, h⟩ := Fin.ift h
    exact .inl ⟨_, _, dx, dy, c, Fin.pure rs h rfl⟩
  · obtain ⟨c, h⟩ := Fin.ift h
    exact .inr (.inl ⟨_, _, dx, dy, c, Fin.pure rs h rfl⟩)
  · obtain ⟨c, h⟩ := Fin.ift h
    obtain ⟨a, vs, rfl, ha, da⟩ := dx
    rename_i ds k _
    refine .inr (.inr ⟨a, k, vs, rfl, dy, rs.sub _ _ ha, c.1, c.2.1, by rw [← da.length]; exact c.2.2, fun p hp => ?_⟩)
    refine h (.ref p) _ ad _ (Nx.alloc rs hp) (rs.alloc hp) ⟨p, _, rfl, upd_same, DPs.mono (Gr.alloc (F_none rs hp)) _ _ ?_⟩
    have rep : ∀ n : Nat, DPs X.K F ad S.length (List.replicate n ds).flatten (List.replicate n vs).flatten := fun n => by
      induction n with
      | zero => exact rfl
      | succ n ih => rw [List.replicate_succ, List.replicate_succ, List.flatten_cons, List.flatten_cons]; exact da.append ih
    exact rep _
theorem of_lt : OpF X (compareOp .Lt) ltD := by
  refine ⟨_, op_lt.or op_lt_str, fun W σ F ad S H x y v w Q rs dx dy h => ?_⟩
  cases x <;> cases y <;> first
    | exact h.elim
    | exact .inl ⟨_, _, dx, dy, Fin.pure rs h rfl⟩
    | exact .inr ⟨_, _, dx, dy, Fin.pure rs h rfl⟩
theorem of_le : OpF X (compareOp .LtE) leD := by
  refine ⟨_, op_le.or op_le_str, fun W σ F ad S H x y v w Q rs dx dy h => ?_⟩
  cases x <;> cases y <;> first
    | exact h.elim
    | exact .inl ⟨_, _, dx, dy, Fin.pure rs h rfl⟩
    | exact .inr ⟨_, _, dx, dy, Fin.pure rs h rfl⟩
theorem of_gt : OpF X (compareOp .Gt) gtD := by
  refine ⟨_, op_gt.or op_gt_str, fun W σ F ad S H x y v w Q rs dx dy h => ?_⟩
  cases x <;> cases y <;> first
    | exact h.elim
    | exact .inl ⟨_, _, dx, dy, Fin.pure rs h rfl⟩
    | exact .inr ⟨_, _, dx, dy, Fin.pure rs h rfl⟩
theorem of_ge : OpF X (compareOp .GtE) geD := by
  refine ⟨_, op_ge.or op_ge_str, fun W σ F ad S H x y v w Q rs dx dy h => ?_⟩
  cases x <;> cases y <;> first
    | exact h.elim
    | exact .inl ⟨_, _, dx, dy, Fin.pure rs h rfl⟩
    | exact .inr ⟨_, _, dx, dy, Fin.pure rs h rfl⟩
def UnF (X : Cx) (f : Value → Sem Value) (g : D → M D) : Prop :=
  ∃ r, UnR X f r ∧ ∀ (W : WX) (σ : L2.St) F ad S H x v (Q : VK), RS X.K F ad S H → DP X.K F ad S.length x v → Fin X W (DP X.K) σ F ad S H (g x S) Q → r v H Q
def un (g : D → M D) (f : Env → M D) : Env → M D := fun env => bd (f env) g
theorem fe_un {W : WX} {op : UnaryOp} {a : Expr} {pos : Pos} {f : Env → M D} {g : D → M D} (ho : UnF X (unaryOp op) g) (ha : FE X W a f) : FE X W (.UnaryOp op a pos) (un g f) := by
  obtain ⟨r, hr, hg⟩ := ho
  exact ⟨PE.weak (pe_un hr ha.run) fun σ H Q ⟨F, ad, env, S, re, rs, h⟩ => ⟨F, ad, env, S, re, rs, Fin.seq re h fun F1 ad1 S1 d v H1 n1 re1 rs1 dp1 h1 => hg W σ F1 ad1 S1 H1 d v Q rs1 dp1 h1⟩⟩
theorem of_neg : UnF X (unaryOp .USub) negD := by
  refine ⟨_, un_neg, fun W σ F ad S H x v Q rs dx h => ?_⟩
  cases x <;> first
    | exact h.elim
    | exact ⟨_, dx, Fin.pure rs h rfl⟩
end

/-! ### data as the library has it -/
mutual
def pyD : D → Option PyData
  | .non => some .none
  | .bl b => some (.bool b)
  | .int i => some (.int i)
  | .str x => some (.str x)
  | .lst xs => match pyDs xs with
    | some ys => some (.list ys)
    | none => none
  | .tup xs => match pyDs xs with
    | some ys => some (.tuple ys)
    | none => none
  | .obj _ => none
  | .scr _ => none
  | .err .. => none
  | .utp _ => none
def pyDs : List D → Option (List PyData)
  | [] => some []
  | d :: ds => match pyD d, pyDs ds with
    | some x, some xs => some (x :: xs)
    | _, _ => none
end
section
variable {X : Cx} {F : Hp} {ad : Nat → Addr} {S : Store} {H : Hp} {L : Nat}
mutual
theorem dp_of (sub : ∀ a o, F a = some o → H a = some o) : ∀ (d : D) (v : V) (p : PyData), DP X.K F ad L d v → pyD d = some p → Dp X.K H v p
  | .non, _, _, h, e => by cases h; cases e; exact .non
  | .bl b, _, _, h, e => by cases h; cases e; exact .bl b
  | .int b, _, _, h, e => by cases h; cases e; exact .int b
  | .str b, _, _, h, e => by cases h; cases e; exact .str b
  | .lst ds, _, _, ⟨a, vs, e1, e2, e3⟩, e => by
    simp only [pyD] at e
    split at e
    · rename_i ys q
      cases e
      subst e1
      exact .lst (SqL.of (sub _ _ e2)) (dps_of sub ds vs ys e3 q)
    · cases e
  | .tup ds, _, _, ⟨a, vs, e1, e2, e3⟩, e => by
    simp only [pyD] at e
    split at e
    · rename_i ys q
      cases e
      subst e1
      exact .tup (sqT_mono sub e2.sq) (dps_of sub ds vs ys e3 q)
    · cases e
  | .obj _, _, _, _, e => by cases e
  | .scr _, _, _, _, e => by cases e
  | .err .., _, _, _, e => by cases e
  | .utp _, _, _, _, e => by cases e
theorem dps_of (sub : ∀ a o, F a = some o → H a = some o) : ∀ (ds : List D) (vs : List V) (ps : List PyData), DPs X.K F ad L ds vs → pyDs ds = some ps → DpAll X.K H vs ps
  | [], _, _, h, e => by cases h; cases e; exact .nil
  | d :: ds, _, _, ⟨v, r, e1, h1, h2⟩, e => by
    simp only [pyDs] at e
    split at e
    · rename_i x xs q1 q2
      cases e
      subst e1
      exact .cons (dp_of sub d v x h1 q1) (dps_of sub ds r xs h2 q2)
    · cases e
end
/-- the data that a value is, a list of the store as it stands -/
def pyM (d : D) : M PyData := match d with
  | .obj n => fun S => match S[n]? with
    | some (some (.lst xs)) => match pyDs xs with
      | some ys => .ok (.list ys) S
      | none => .no
    | _ => .no
  | .scr ns => fun S => .ok (.list (ns.map .int)) S
  | d => opt (pyD d)
theorem dp_ints {K : PySem.W.Frag} {H : Hp} : ∀ ns : List Int, DpAll K H (ns.map V.int) (ns.map PyData.int)
  | [] => .nil
  | n :: ns => .cons (.int n) (dp_ints ns)
theorem pyM_ex {d : D} {e : Ex} {S' : Store} (h : pyM d S = .ex e S') : False := by
  cases d with
  | obj n =>
    simp only [pyM] at h
    split at h
    · split at h <;> cases h
    · cases h
  | scr ns => simp only [pyM] at h; cases h
  | _ => (simp only [pyM] at h; exact opt_ex h)
theorem pyM_at {d : D} {v : V} {p : PyData} {S' : Store} (rs : RS X.K F ad S H) (dp : DP X.K F ad S.length d v) (h : pyM d S = .ok p S') : S' = S ∧ Dp X.K H v p := by
  cases d with
  | obj n =>
    obtain ⟨hn, e⟩ := dp
    simp only [pyM] at h
    split at h
    · rename_i xs q
      split at h
      · rename_i ys q2
        cases h
        obtain ⟨h1, o, h2, vs, h3, h4⟩ := rs.liv n _ q
        subst h3 e
        exact ⟨rfl, .lst (SqL.of h2) (dps_of rs.sub xs vs ys h4 q2)⟩
      · cases h
    · cases h
  | scr ns =>
    simp only [pyM] at h
    cases h
    obtain ⟨a, rfl, q⟩ := dp
    exact ⟨rfl, .lst (sqL_mono rs.sub q) (dp_ints ns)⟩
  | _ =>
    simp only [pyM] at h
    obtain ⟨e, q⟩ := opt_ok h
    exact ⟨e, dp_of rs.sub _ v p dp q⟩
end
def eqD (x y : D) : M D := bd (pyM x) fun p => bd (pyM y) fun q => if SeqAt.shaped p = true ∧ SeqAt.shaped q = true then pur (.bl (PyData.eqv p q)) else mno
def neD (x y : D) : M D := bd (pyM x) fun p => bd (pyM y) fun q => if SeqAt.shaped p = true ∧ SeqAt.shaped q = true then pur (.bl (!PyData.eqv p q)) else mno
section
variable {X : Cx}
theorem of_eq (hu : X.A.units + 64 < cLine) : OpF X (compareOp .Eq) eqD := by
  refine ⟨_, op_eqD hu, fun W σ F ad S H x y v w Q rs dx dy h => ?_⟩
  obtain ⟨p, S1, e1, h⟩ := Fin.look h fun _ _ => pyM_ex
  obtain ⟨rfl, d1⟩ := pyM_at rs dx e1
  obtain ⟨q, S1, e2, h⟩ := Fin.look h fun _ _ => pyM_ex
  obtain ⟨rfl, d2⟩ := pyM_at rs dy e2
  obtain ⟨c, h⟩ := Fin.ift h
  exact ⟨p, q, d1, d2, c.1, c.2, Fin.pure rs h rfl⟩
theorem of_ne (hu : X.A.units + 64 < cLine) : OpF X (compareOp .NotEq) neD := by
  refine ⟨_, op_neD hu, fun W σ F ad S H x y v w Q rs dx dy h => ?_⟩
  obtain ⟨p, S1, e1, h⟩ := Fin.look h fun _ _ => pyM_ex
  obtain ⟨rfl, d1⟩ := pyM_at rs dx e1
  obtain ⟨q, S1, e2, h⟩ := Fin.look h fun _ _ => pyM_ex
  obtain ⟨rfl, d2⟩ := pyM_at rs dy e2
  obtain ⟨c, h⟩ := Fin.ift h
  exact ⟨p, q, d1, d2, c.1, c.2, Fin.pure rs h rfl⟩
/-- x is None -/
def isNon : D → Bool
  | .non => true
  | _ => false
theorem isNon_V {K F ad L} {d : D} {v : V} (h : DP K F ad L d v) : decide (v = .non) = isNon d := by
  cases d <;> first
    | (cases h; rfl)
    | (obtain ⟨a, vs, rfl, _⟩ := h; rfl)
    | (obtain ⟨rfl, _⟩ := h; rfl)
    | (obtain ⟨_, rfl⟩ := h; rfl)
    | (obtain ⟨a, rfl, _⟩ := h; rfl)
def isD : D → D → M D := fun x y => if isNon y = true then pur (.bl (isNon x)) else mno
def isntD : D → D → M D := fun x y => if isNon y = true then pur (.bl (!isNon x)) else mno
theorem of_is : OpF X (compareOp .Is) isD := by
  refine ⟨_, op_isN, fun W σ F ad S H x y v w Q rs dx dy h => ?_⟩
  obtain ⟨c, h⟩ := Fin.ift h
  have e := isNon_V dy
  rw [c] at e
  exact ⟨of_decide_eq_true e, Fin.pure rs h (by rw [isNon_V dx]; rfl)⟩
theorem of_isnt : OpF X (compareOp .IsNot) isntD := by
  refine ⟨_, op_notN, fun W σ F ad S H x y v w Q rs dx dy h => ?_⟩
  obtain ⟨c, h⟩ := Fin.ift h
  have e := isNon_V dy
  rw [c] at e
  exact ⟨of_decide_eq_true e, Fin.pure rs h (by rw [isNon_V dx]; rfl)⟩
/-! ### in -/
def strOf : D → Option Str
  | .str x => some x
  | _ => none
def strsOf : List D → Option (List Str)
  | [] => some []
  | d :: ds => match strOf d, strsOf ds with
    | some x, some xs => some (x :: xs)
    | _, _ => none
theorem strsOf_at {K F ad L} : ∀ {ds : List D} {vs : List V} {xs : List Str}, DPs K F ad L ds vs → strsOf ds = some xs → vs = xs.map V.str
  | [], _, _, h, e => by cases h; cases e; rfl
  | d :: ds, _, _, ⟨v, r, e1, h1, h2⟩, e => by
    simp only [strsOf] at e
    split at e
    · rename_i x xs q1 q2
      cases e
      cases d <;> first
        | (cases q1; done)
        | skip
      cases q1
      cases h1
      rw [e1, strsOf_at h2 q2]
      rfl
    · cases e
def signOf (x : Str) : Option Nat := match x.cps.toList with
  | [c] => some c
  | _ => none
theorem signOf_eq {x : Str} {c : Nat} (h : signOf x = some c) : x = ⟨#[c]⟩ := by
  unfold signOf at h
  split at h
  · rename_i c' q
    cases h
    obtain ⟨⟨l⟩⟩ := x
    simp at q
    rw [q]
  · cases h
/-- x in y: one sign in a text, a text among texts -/
def inD (neg : Bool) : D → D → M D
  | .str x, .str z => bd (opt (signOf x)) fun c => pur (.bl (if neg = true then !decide (c ∈ z.cps.toList) else decide (c ∈ z.cps.toList)))
  | .str x, y => bd (seqLT y) fun ds => bd (opt (strsOf ds)) fun xs => pur (.bl (if neg = true then !decide (x ∈ xs) else decide (x ∈ xs)))
  | _, _ => mno
theorem inV_strs (x : Str) (xs : List Str) : inV (.str x) (xs.map V.str) = decide (x ∈ xs) := by
  unfold inV
  induction xs with
  | nil => rfl
  | cons y ys ih =>
    rw [List.map_cons, List.any_cons, ih]
    have : eqV (.str y) (.str x) = decide (y = x) := by
      by_cases e : y = x
      · subst e; simp [eqV]
      · simp [eqV, e]
    rw [this]
    by_cases e : y = x
    · subst e; simp
    · have e' : ¬ x = y := fun q => e q.symm
      simp [e, e']
theorem flat_strs (xs : List Str) : (xs.map V.str).all flatV = true := by
  rw [List.all_eq_true]
  intro v hv
  obtain ⟨x, _, rfl⟩ := List.mem_map.mp hv
  rfl
theorem in_core {neg : Bool} {W : WX} {σ : L2.St} {F ad S H} {x : Str} {y : D} {v w : V} {Q : VK} (rs : RS X.K F ad S H) (dx : DP X.K F ad S.length (.str x) v) (dy : DP X.K F ad S.length y w)
    (h : Fin X W (DP X.K) σ F ad S H ((bd (seqLT y) fun ds => bd (opt (strsOf ds)) fun xs => pur (.bl (if neg = true then !decide (x ∈ xs) else decide (x ∈ xs)))) S) Q) : rIn X.K neg v w H Q := by
  obtain ⟨ds, S1, e1, h⟩ := Fin.look h fun _ _ => seqLT_ex
  obtain ⟨rfl, a, vs, rfl, q, da⟩ := seqLT_at rs dy e1
  obtain ⟨xs, S2, e2, h⟩ := Fin.look h fun _ _ => opt_ex
  obtain ⟨rfl, e3⟩ := opt_ok e2
  have ev := strsOf_at da e3
  subst ev
  cases dx
  refine ⟨a, _, rfl, q, rfl, flat_strs xs, ?_⟩
  rw [inV_strs]
  exact Fin.pure rs h rfl
theorem of_in : OpF X (compareOp .In) (inD false) := by
  refine ⟨_, op_in_sign.or op_in_seq, fun W σ F ad S H x y v w Q rs dx dy h => ?_⟩
  cases x with
  | str x =>
    cases y with
    | str z =>
      obtain ⟨c, S1, e, h⟩ := Fin.look h fun _ _ => opt_ex
      obtain ⟨rfl, e3⟩ := opt_ok e
      cases dx; cases dy
      exact .inl ⟨c, z, by rw [signOf_eq e3], rfl, Fin.pure rs h rfl⟩
    | _ => (simp only [inD] at h; exact .inr (in_core (neg := false) rs dx dy h))
  | _ => exact h.elim
theorem of_notin : OpF X (compareOp .NotIn) (inD true) := by
  refine ⟨_, op_notIn_sign.or op_notIn_seq, fun W σ F ad S H x y v w Q rs dx dy h => ?_⟩
  cases x with
  | str x =>
    cases y with
    | str z =>
      obtain ⟨c, S1, e, h⟩ := Fin.look h fun _ _ => opt_ex
      obtain ⟨rfl, e3⟩ := opt_ok e
      cases dx; cases dy
      exact .inl ⟨c, z, by rw [signOf_eq e3], rfl, Fin.pure rs h rfl⟩
    | _ => (simp only [inD] at h; exact .inr (in_core (neg := true) rs dx dy h))
  | _ => exact h.elim
end
end Fx

end
/-! ## Fx3 -/
section
namespace Fx
open PySem PySem.Spec PyProof.Rows L2
variable [tb : Tabl]

/-! ### defs by functions -/
def spF (K : PySem.W.Frag) (mg : Str → Option Value) (g : List D → M D) : Sp := fun vs H Q E =>
  ∃ F ad S ds, RS K F ad S H ∧ DPs K F ad S.length ds vs ∧ (match g ds S with
    | .ok d S' => ∀ v F' ad' H', Nx F ad S H F' ad' S' H' → RS K F' ad' S' H' → DP K F' ad' S'.length d v → Q v H'
    | .ex e S' => ∀ cls dd F' ad' H', Nx F ad S H F' ad' S' H' → RS K F' ad' S' H' → ER K mg F' ad' S'.length e cls dd H' → E cls dd H'
    | .no => False)
/-- called where nothing is being shown (if q) -/
structure FnG (q : Bool) (P : Program) (w : World) (K : PySem.W.Frag) (mg : Str → Option Value) (base : Heap) (k : Nat) (f : Addr) (fd : FuncData) (ps : List Str) (g : List D → M D) : Prop where
  len : ∀ vs H Q E, spF K mg g vs H Q E → vs.length = ps.length
  run : ∀ (A : Around) (outer : List PySem.Env) (s : Shared) (H : Hp) (args : Args) (us : List Value) (vs : List V) (Q : VK) (E : XK),
    (q = true → A.guards = some []) → Room k A → Env0 P w K mg base A outer s H → BindsTo s fd args (ps.zip us) → Vals vs us →
    spF K mg g vs H Q E → codeAny (model P w) A (.call (.ref f) args) (CR (L2.CX P w) outer P w H s Q E) s
theorem FnG.mono {q P w K mg base j k f fd ps g} (F : FnG q P w K mg base j f fd ps g) (h : j ≤ k) : FnG q P w K mg base k f fd ps g :=
  ⟨F.len, fun A outer s H args us vs Q E hg hr => F.run A outer s H args us vs Q E hg (hr.mono h)⟩

/-- what a def's body is -/
inductive Fl where
  | nx (env : Env) | rt (d : D) | bk (env : Env) | ct (env : Env)
/-- a statement by a function: what is next, the slots at an error -/
inductive RsS where
  | ok (f : Fl) (S : Store) | ex (e : Ex) (env : Env) (S : Store) | no
abbrev MS := Store → RsS

/-- the end of a statement -/
def FinS (X : Cx) (W : WX) (D : Ends) (F : Hp) (ad : Nat → Addr) (S : Store) (H : Hp) (r : RsS) : Prop :=
  match r with
  | .ok (.nx env') S' => ∀ σ' F' ad' H', Nx F ad S H F' ad' S' H' → RS X.K F' ad' S' H' → RE X.K F' ad' S'.length env' σ' → σ'.length = X.N.length → D.nx σ' H'
  | .ok (.rt d) S' => ∀ v F' ad' H', Nx F ad S H F' ad' S' H' → RS X.K F' ad' S' H' → DP X.K F' ad' S'.length d v → D.rt v H'
  | .ok (.bk env') S' => ∀ σ' F' ad' H', Nx F ad S H F' ad' S' H' → RS X.K F' ad' S' H' → RE X.K F' ad' S'.length env' σ' → σ'.length = X.N.length → D.bk σ' H'
  | .ok (.ct env') S' => ∀ σ' F' ad' H', Nx F ad S H F' ad' S' H' → RS X.K F' ad' S' H' → RE X.K F' ad' S'.length env' σ' → σ'.length = X.N.length → D.ct σ' H'
  | .ex e env' S' => ∀ cls dd σ' F' ad' H', Nx F ad S H F' ad' S' H' → RS X.K F' ad' S' H' → RE X.K F' ad' S'.length env' σ' → σ'.length = X.N.length → ER X.K X.mg F' ad' S'.length e cls dd H' → W cls dd σ' H'
  | .no => False
theorem FinS.from {X : Cx} {W : WX} {D : Ends} {F ad S H F1 ad1 S1 H1} {r : RsS} (n1 : Nx F ad S H F1 ad1 S1 H1) (h : FinS X W D F ad S H r) : FinS X W D F1 ad1 S1 H1 r := by
  cases r with
  | no => exact h
  | ex e env' S' => exact fun c dd σ' F' ad' H' n r re l er => h c dd σ' F' ad' H' (n1.trans n) r re l er
  | ok f S' =>
    cases f with
    | nx e => exact fun σ' F' ad' H' n r re l => h σ' F' ad' H' (n1.trans n) r re l
    | bk e => exact fun σ' F' ad' H' n r re l => h σ' F' ad' H' (n1.trans n) r re l
    | ct e => exact fun σ' F' ad' H' n r re l => h σ' F' ad' H' (n1.trans n) r re l
    | rt d => exact fun v F' ad' H' n r dp => h v F' ad' H' (n1.trans n) r dp
def tS (X : Cx) (W : WX) (f : Env → MS) : TS := fun D σ H => ∃ F ad env S, RE X.K F ad S.length env σ ∧ RS X.K F ad S H ∧ FinS X W D F ad S H (f env S)
structure FS (X : Cx) (W : WX) (st : Stmt) (f : Env → MS) : Prop where
  run : PS X st (tS X W f)
structure FSs (X : Cx) (W : WX) (sts : List Stmt) (f : Env → MS) : Prop where
  run : PSs X sts (tS X W f)
theorem PS.weakI {X : Cx} {e : Stmt} {t t' : TS} (h : PS X e t) (w : ∀ D σ H, σ.length = X.N.length → t' D σ H → t D σ H) : PS X e t' := ⟨fun pins s σ H D I q => h.run pins s σ H D I (w _ _ _ I.len q)⟩
theorem PSs.weakI {X : Cx} {e : List Stmt} {t t' : TS} (h : PSs X e t) (w : ∀ D σ H, σ.length = X.N.length → t' D σ H → t D σ H) : PSs X e t' := ⟨fun pins s σ H D I q => h.run pins s σ H D I (w _ _ _ I.len q)⟩

def lft {α : Type} (m : M α) (env : Env) (k : α → MS) : MS := fun S => match m S with
  | .ok a S' => k a S'
  | .ex e S' => .ex e env S'
  | .no => .no
theorem FinS.seqE {α β : Type} {X : Cx} {W : WX} {RR : Hp → (Nat → Addr) → Nat → α → β → Prop} {D : Ends} {m : M α} {env : Env} {k : α → MS} {σ : L2.St} {F ad S H} {Q1 : β → Hp → Prop} (re : RE X.K F ad S.length env σ) (hl : σ.length = X.N.length)
    (h : FinS X W D F ad S H (lft m env k S))
    (hk : ∀ F1 ad1 S1 d v H1, Nx F ad S H F1 ad1 S1 H1 → RE X.K F1 ad1 S1.length env σ → RS X.K F1 ad1 S1 H1 → RR F1 ad1 S1.length d v → FinS X W D F1 ad1 S1 H1 (k d S1) → Q1 v H1) :
    Fin X W RR σ F ad S H (m S) Q1 := by
  simp only [lft] at h
  cases e : m S with
  | ok d S1 =>
    rw [e] at h
    exact fun v F1 ad1 H1 n1 r1 p1 => hk F1 ad1 S1 d v H1 n1 (re.mono n1.gr) r1 p1 (h.from n1)
  | ex x S1 =>
    rw [e] at h
    exact fun c dd F1 ad1 H1 n1 r1 er => h c dd σ F1 ad1 H1 n1 r1 (re.mono n1.gr) hl er
  | no => rw [e] at h; exact h

section
variable {X : Cx} {W : WX} {pos : Pos} {e c : Expr} {f : Env → M D} {st : Stmt} {sts sts' : List Stmt} {g g' : Env → MS}
/-! ### statements -/
def pass : Env → MS := fun env S => .ok (.nx env) S
theorem fss_nil : FSs X W [] pass := ⟨PSs.weakI pss_nil fun D σ H hl ⟨F, ad, env, S, re, rs, h⟩ => h σ F ad H .refl rs re hl⟩
def seqS (g g' : Env → MS) : Env → MS := fun env S => match g env S with
  | .ok (.nx env') S' => g' env' S'
  | r => r
theorem fss_cons (h1 : FS X W st g) (h2 : FSs X W sts g') : FSs X W (st :: sts) (seqS g g') := by
  refine ⟨PSs.weakI (pss_cons h1.run h2.run) fun D σ H hl ⟨F, ad, env, S, re, rs, h⟩ => ?_⟩
  refine ⟨F, ad, env, S, re, rs, ?_⟩
  simp only [seqS] at h
  cases q : g env S with
  | no => rw [q] at h; exact h
  | ex x env' S' => rw [q] at h; exact h
  | ok fl S' =>
    rw [q] at h
    cases fl with
    | nx env' => exact fun σ' F' ad' H' n r re' l => ⟨F', ad', env', S', re', r, FinS.from n h⟩
    | rt d => exact h
    | bk d => exact h
    | ct d => exact h
theorem fss_one (h1 : FS X W st g) : FSs X W [st] g := ⟨pss_one h1.run⟩
theorem fs_pass : FS X W (.Pass pos) pass := ⟨PS.weakI ps_pass fun D σ H hl ⟨F, ad, env, S, re, rs, h⟩ => h σ F ad H .refl rs re hl⟩
theorem fs_doc {x j pos'} : FS X W (.Expr (.Constant (.str x) j pos) pos') pass := ⟨PS.weakI ps_doc fun D σ H hl ⟨F, ad, env, S, re, rs, h⟩ => h σ F ad H .refl rs re hl⟩
theorem fs_continue : FS X W (.Continue pos) (fun env S => .ok (.ct env) S) := ⟨PS.weakI ps_continue fun D σ H hl ⟨F, ad, env, S, re, rs, h⟩ => h σ F ad H .refl rs re hl⟩
theorem fs_break : FS X W (.Break pos) (fun env S => .ok (.bk env) S) := ⟨PS.weakI ps_break fun D σ H hl ⟨F, ad, env, S, re, rs, h⟩ => h σ F ad H .refl rs re hl⟩
def ret (f : Env → M D) : Env → MS := fun env => lft (f env) env fun d S => .ok (.rt d) S
theorem fs_ret (he : FE X W e f) : FS X W (.Return (some e) pos) (ret f) :=
  ⟨PS.weakI (ps_ret he.run) fun D σ H hl ⟨F, ad, env, S, re, rs, h⟩ => ⟨F, ad, env, S, re, rs, FinS.seqE re hl h fun F1 ad1 S1 d v H1 n1 re1 rs1 dp1 h1 => h1 v F1 ad1 H1 .refl rs1 dp1⟩⟩
theorem fs_retN : FS X W (.Return none pos) (fun _ S => .ok (.rt .non) S) := ⟨PS.weakI ps_retN fun D σ H hl ⟨F, ad, env, S, re, rs, h⟩ => h .non F ad H .refl rs rfl⟩
def drop (f : Env → M D) : Env → MS := fun env => lft (f env) env fun _ S => .ok (.nx env) S
theorem fs_expr (he : FE X W e f) (hs : swapsWith e none pos.line X.env = pure false := by rfl) : FS X W (.Expr e pos) (drop f) :=
  ⟨PS.weakI (ps_expr he.run hs) fun D σ H hl ⟨F, ad, env, S, re, rs, h⟩ => ⟨F, ad, env, S, re, rs, FinS.seqE re hl h fun F1 ad1 S1 d v H1 n1 re1 rs1 dp1 h1 => h1 σ F1 ad1 H1 .refl rs1 re1 hl⟩⟩
def ifS (p : Env → M Bool) (g g' : Env → MS) : Env → MS := fun env => lft (p env) env fun b => if b = true then g env else g' env
theorem fs_if {p : Env → M Bool} (hc : FT X W c p) (ha : FSs X W sts g) (hb : FSs X W sts' g') : FS X W (.If c sts sts' pos) (ifS p g g') := by
  refine ⟨PS.weakI (ps_if hc.run ha.run hb.run) fun D σ H hl ⟨F, ad, env, S, re, rs, h⟩ => ⟨F, ad, env, S, re, rs, FinS.seqE re hl h fun F1 ad1 S1 d v H1 n1 re1 rs1 dp1 h1 => ?_⟩⟩
  subst dp1
  cases d with
  | true => exact iteT ⟨F1, ad1, env, S1, re1, rs1, by simpa using h1⟩
  | false => exact iteF ⟨F1, ad1, env, S1, re1, rs1, by simpa using h1⟩
/-! ### targets -/
/-- σ' is σ but for the slots ws -/
def But (ws : List Nat) (σ σ' : L2.St) : Prop := σ'.length = σ.length ∧ ∀ j : Nat, j ∉ ws → σ'[j]? = σ[j]?
def FG (X : Cx) (tg : Expr) (ws : List Nat) (t : D → Env → Option Env) : Prop := ∃ r : TG, PG X tg r ∧
  ∀ d v env env' σ F ad S H (Q : L2.St → Hp → Prop), RS X.K F ad S H → DP X.K F ad S.length d v → RE X.K F ad S.length env σ → σ.length = X.N.length → t d env = some env' →
  (∀ σ', RE X.K F ad S.length env' σ' → But ws σ σ' → Q σ' H) → r v σ H Q
def toN (i : Nat) : D → Env → Option Env := fun d env => some (env.set i (some d))
theorem fg_name {i : Nat} {x : Str} {p : Pos} (hN : X.N.Nodup) (hi : X.N[i]? = some x) (hx : Loc X.env.scope x) (hf : X.fn x = true ∨ X.env.scope.names.lookup x = some .local := by first | exact .inl rfl | exact .inr rfl | assumption) : FG X (.Name x p) [i] (toN i) := by
  refine ⟨_, pg_name hN hi hx hf, fun d v env env' σ F ad S H Q rs dp re hl e k => ?_⟩
  cases e
  have : i < σ.length := by rw [hl]; exact lt_of_some hi
  refine k _ (re.set dp this) ⟨by rw [List.length_set], fun j hj => ?_⟩
  rw [List.getElem?_set_ne (fun z => hj (by rw [z]; exact List.mem_singleton.mpr rfl))]
def FGs (X : Cx) (ts : List Expr) (ws : List Nat) (n : Nat) (t : List D → Env → Option Env) : Prop := (∀ ds env env', t ds env = some env' → ds.length = n) ∧ ∃ r : TGs, PGs X ts r ∧
  ∀ ds vs env env' σ F ad S H (Q : L2.St → Hp → Prop), RS X.K F ad S H → DPs X.K F ad S.length ds vs → RE X.K F ad S.length env σ → σ.length = X.N.length → t ds env = some env' →
  (∀ σ', RE X.K F ad S.length env' σ' → But ws σ σ' → Q σ' H) → r vs σ H Q
def toNil : List D → Env → Option Env := fun ds env => match ds with
  | [] => some env
  | _ => none
def toCons (t : D → Env → Option Env) (u : List D → Env → Option Env) : List D → Env → Option Env := fun ds env => match ds with
  | [] => none
  | d :: r => match t d env with
    | none => none
    | some env1 => u r env1
theorem fgs_nil : FGs X [] [] 0 toNil := by
  refine ⟨fun ds env env' e => ?_, _, pgs_nil, fun ds vs env env' σ F ad S H Q rs dp re hl e k => ?_⟩
  · cases ds with
    | nil => rfl
    | cons _ _ => cases e
  · cases ds with
    | nil => cases e; exact ⟨dp, k _ re ⟨rfl, fun _ _ => rfl⟩⟩
    | cons _ _ => cases e
theorem fgs_cons {t : Expr} {ts : List Expr} {n : Nat} {w1 w2 : List Nat} {u : D → Env → Option Env} {us : List D → Env → Option Env} (h1 : FG X t w1 u) (h2 : FGs X ts w2 n us)
    (h : (assignEach (t :: ts) X.env).map (·.2) = assign t X.env :: (assignEach ts X.env).map (·.2) := by rfl) : FGs X (t :: ts) (w1 ++ w2) (n + 1) (toCons u us) := by
  obtain ⟨r1, p1, q1⟩ := h1
  obtain ⟨l2, r2, p2, q2⟩ := h2
  have parts : ∀ ds env env', toCons u us ds env = some env' → ∃ d r env1, ds = d :: r ∧ u d env = some env1 ∧ us r env1 = some env' := fun ds env env' e => by
    cases ds with
    | nil => cases e
    | cons d r =>
      simp only [toCons] at e
      split at e
      · cases e
      · rename_i env1 e1
        exact ⟨d, r, env1, rfl, e1, e⟩
  refine ⟨fun ds env env' e => ?_, _, pgs_cons p1 p2 h, fun ds vs env env' σ F ad S H Q rs dp re hl e k => ?_⟩
  · obtain ⟨d, r, env1, rfl, _, e2⟩ := parts ds env env' e
    rw [List.length_cons, l2 r env1 env' e2]
  · obtain ⟨d, r, env1, rfl, e1, e2⟩ := parts ds env env' e
    obtain ⟨v, vr, rfl, dv, dr⟩ := dp
    refine ⟨v, vr, rfl, q1 d v env env1 σ F ad S H _ rs dv re hl e1 fun σ1 re1 b1 => q2 r vr env1 env' σ1 F ad S H Q rs dr re1 (by rw [b1.1, hl]) e2 fun σ2 re2 b2 => k σ2 re2 ⟨by rw [b2.1, b1.1], fun j hj => ?_⟩⟩
    rw [List.mem_append, not_or] at hj
    rw [b2.2 j hj.2, b1.2 j hj.1]
/-- (a, b, ..) = a tuple -/
def toTup (us : List D → Env → Option Env) : D → Env → Option Env := fun d env => match d with
  | .tup ds => us ds env
  | .utp ds => us ds env
  | _ => none
theorem fg_tup {es : List Expr} {ws : List Nat} {n k : Nat} {p : Pos} {us : List D → Env → Option Env} (hc : X.calm = true) (h : FGs X es ws n us) (hn : (assignEach es X.env).length = n := by rfl) (hst : (assignEach es X.env).findIdx? (·.1) = none := by rfl) : FG X (.Tuple es k p) ws (toTup us) := by
  obtain ⟨l, r, p1, q1⟩ := h
  refine ⟨_, pg_tup hc p1 hn hst, fun d v env env' σ F ad S H Q rs dp re hl e k => ?_⟩
  cases d <;> first
    | (cases e; done)
    | skip
  case tup ds =>
    obtain ⟨a, xs, rfl, hx, dx⟩ := dp
    exact ⟨a, xs, rfl, sqT_mono rs.sub hx.sq, by rw [← dx.length]; exact l ds env env' e, q1 ds xs env env' σ F ad S H Q rs dx re hl e k⟩
  case utp ds =>
    obtain ⟨a, xs, rfl, hx, dx⟩ := dp
    exact ⟨a, xs, rfl, sqT_mono rs.sub hx, by rw [← dx.length]; exact l ds env env' e, q1 ds xs env env' σ F ad S H Q rs dx re hl e k⟩
/-- target = e -/
def asg (f : Env → M D) (t : D → Env → Option Env) : Env → MS := fun env => lft (f env) env fun d S => match t d env with
  | some env' => .ok (.nx env') S
  | none => .no
theorem fs_asg {tg : Expr} {ws : List Nat} {t : D → Env → Option Env} (he : FE X W e f) (hg : FG X tg ws t) (hs : swapsWithSole [tg] e pos.line X.env = pure false := by rfl) (hw : swappedStores [tg] e X.env = pure none := by rfl)
    (h1 : (assignEach [tg] X.env).map (·.2) = [assign tg X.env] := by rfl) : FS X W (.Assign [tg] e pos) (asg f t) := by
  obtain ⟨r, hr, hq⟩ := hg
  refine ⟨PS.weakI (ps_asg he.run hr hs hw h1) fun D σ H hl ⟨F, ad, env, S, re, rs, h⟩ => ⟨F, ad, env, S, re, rs, FinS.seqE re hl h fun F1 ad1 S1 d v H1 n1 re1 rs1 dp1 h1 => ?_⟩⟩
  cases q : t d env with
  | none => simp only [q] at h1; exact h1.elim
  | some env' =>
    simp only [q] at h1
    exact hq d v env env' σ F1 ad1 S1 H1 _ rs1 dp1 re1 hl q fun σ' re' b => h1 σ' F1 ad1 H1 .refl rs1 re' (by rw [b.1, hl])
/-- x = e -/
def set (i : Nat) (f : Env → M D) : Env → MS := fun env => lft (f env) env fun d S => .ok (.nx (env.set i (some d))) S
theorem fs_set {i : Nat} {x : Str} {p : Pos} (hN : X.N.Nodup) (hi : X.N[i]? = some x) (hx : Loc X.env.scope x) (he : FE X W e f) (hs : swapsWith e (some (.Name x p)) pos.line X.env = pure false := by rfl)
    (hf : X.fn x = true ∨ X.env.scope.names.lookup x = some .local := by first | exact .inl rfl | exact .inr rfl | assumption) : FS X W (.Assign [.Name x p] e pos) (set i f) := by
  refine ⟨PS.weakI (ps_set hN hi hx he.run hs hf) fun D σ H hl ⟨F, ad, env, S, re, rs, h⟩ => ⟨F, ad, env, S, re, rs, FinS.seqE re hl h fun F1 ad1 S1 d v H1 n1 re1 rs1 dp1 h1 => ?_⟩⟩
  have : i < σ.length := by rw [hl]; exact lt_of_some hi
  exact h1 _ F1 ad1 H1 .refl rs1 (re1.set dp1 this) (by rw [List.length_set]; exact hl)
/-- a, b = e1, e2 -/
def par (i j : Nat) (t : Env → M (List D)) : Env → MS := fun env => lft (t env) env fun ds S => match ds with
  | [u, v] => .ok (.nx ((env.set i (some u)).set j (some v))) S
  | _ => .no
theorem fs_par {i j : Nat} {x y : Str} {a b : Expr} {t : Env → M (List D)} {px py pt : Pos} {kt k2 pt2} (hc : X.calm = true) (hN : X.N.Nodup) (hi : X.N[i]? = some x) (hj : X.N[j]? = some y) (hij : i ≠ j)
    (hx : X.env.scope.names.lookup x = some .local) (hy : X.env.scope.names.lookup y = some .local) (ha : FA X W [a, b] t)
    (hw : swappedStores [.Tuple [.Name x px, .Name y py] kt pt] (.Tuple [a, b] k2 pt2) X.env = pure (some [x, y]))
    (hs : swapsWithSole [.Tuple [.Name x px, .Name y py] kt pt] (.Tuple [a, b] k2 pt2) pos.line X.env = pure false := by rfl) :
    FS X W (.Assign [.Tuple [.Name x px, .Name y py] kt pt] (.Tuple [a, b] k2 pt2) pos) (par i j t) := by
  refine ⟨PS.weakI (ps_par hc hN hi hj hij hx hy ha.run hw hs) fun D σ H hl ⟨F, ad, env, S, re, rs, h⟩ => ⟨F, ad, env, S, re, rs, FinS.seqE re hl h fun F1 ad1 S1 ds vs H1 n1 re1 rs1 dp1 h1 => ?_⟩⟩
  have l1 : i < σ.length := by rw [hl]; exact lt_of_some hi
  have l2 : j < (σ.set i (some (vs.getD 0 .non))).length := by rw [List.length_set, hl]; exact lt_of_some hj
  match ds, h1 with
  | [u, v], h1 =>
    obtain ⟨v1, r1, rfl, d1, v2, r2, rfl, d2, e3⟩ := dp1
    cases e3
    exact ⟨v1, v2, rfl, h1 _ F1 ad1 H1 .refl rs1 ((re1.set d1 l1).set d2 l2) (by rw [List.length_set, List.length_set]; exact hl)⟩

/-! ### what is walked -/
def ItOk (X : Cx) (F : Hp) (ad : Nat → Addr) (L : Nat) (ds : List D) (J : It) : Prop := ∀ F' ad' S' H', Gr F ad L F' ad' S'.length → RS X.K F' ad' S' H' → ∀ i : Nat,
  (∀ d, ds[i]? = some d → J.go i H' ∧ ∀ x H'', J.yld i H' x H'' → ∃ F2 ad2, Nx F' ad' S' H' F2 ad2 S' H'' ∧ RS X.K F2 ad2 S' H'' ∧ DP X.K F2 ad2 S'.length d x) ∧ (ds.length ≤ i → J.stop i H')
def FI (X : Cx) (W : WX) (tg iter : Expr) (m : Env → M (List D)) : Prop := ∃ wi, PI X tg iter wi ∧ ∀ σ H (R : It → Hp → Prop) F ad env S, RE X.K F ad S.length env σ → RS X.K F ad S H → Fin X W (ItOk X) σ F ad S H (m env S) R → wi σ H R
theorem PI.or {tg iter : Expr} {w1 w2 : TI} (h1 : PI X tg iter w1) (h2 : PI X tg iter w2) : PI X tg iter (fun σ H R => w1 σ H R ∨ w2 σ H R) :=
  ⟨fun pins s σ H R I h => h.elim (h1.run pins s σ H R I) (h2.run pins s σ H R I)⟩
/-- the items of what never changes -/
def itm : D → M (List D)
  | .lst xs => pur xs
  | .tup xs => pur xs
  | .scr ns => pur (ns.map D.int)
  | .str x => pur (x.cps.toList.map fun c => .str ⟨#[c]⟩)
  | _ => mno
def itf (f : Env → M D) : Env → M (List D) := fun env => bd (f env) itm
theorem itOk_list {F ad L} {ds : List D} {a : Addr} {vs : List V} (q : SqL X.K F a vs) (dp : DPs X.K F ad L ds vs) : ItOk X F ad L ds (Itl X.K a) := fun F' ad' S' H' g rs i => by
  have q' : SqL X.K H' a vs := sqL_mono rs.sub (sqL_mono g.f q)
  have dp' := DPs.mono g ds vs dp
  refine ⟨fun d e => ?_, fun hi => ⟨vs, q', by rw [← dp.length]; exact hi⟩⟩
  obtain ⟨v, e1, e2⟩ := dp'.at e
  refine ⟨⟨vs, v, q', e1⟩, fun x H'' y => ?_⟩
  have := y.2 vs q'
  rw [e1] at this; cases this
  rw [y.1]
  exact ⟨F', ad', .refl, rs, e2⟩
theorem itOk_tup {F ad L} {ds : List D} {a : Addr} {vs : List V} (q : SqT X.K F a vs) (dp : DPs X.K F ad L ds vs) : ItOk X F ad L ds (Itt X.K a) := fun F' ad' S' H' g rs i => by
  have q' : SqT X.K H' a vs := sqT_mono rs.sub (sqT_mono g.f q)
  have dp' := DPs.mono g ds vs dp
  refine ⟨fun d e => ?_, fun hi => ⟨vs, q', by rw [← dp.length]; exact hi⟩⟩
  obtain ⟨v, e1, e2⟩ := dp'.at e
  refine ⟨⟨vs, v, q', e1⟩, fun x H'' y => ?_⟩
  have := y.2 vs q'
  rw [e1] at this; cases this
  rw [y.1]
  exact ⟨F', ad', .refl, rs, e2⟩
theorem itOk_str {F ad L} (x : Str) : ItOk X F ad L (x.cps.toList.map fun c => .str ⟨#[c]⟩) (Its x) := fun F' ad' S' H' g rs i => by
  refine ⟨fun d e => ?_, fun hi => ?_⟩
  · rw [List.getElem?_map] at e
    cases q : x.cps.toList[i]? with
    | none => rw [q] at e; cases e
    | some c =>
      rw [q] at e; cases e
      have hi : i < x.cps.size := by have := lt_of_some q; simpa using this
      refine ⟨hi, fun y H'' ⟨h1, c', h2, h3⟩ => ?_⟩
      rw [Array.getElem?_toList] at q
      rw [q] at h2; cases h2
      rw [h1]
      exact ⟨F', ad', .refl, rs, h3⟩
  · show x.cps.size ≤ i
    simpa using hi
theorem fi_seq {tg : Expr} (he : FE X W e f) : FI X W tg e (itf f) := by
  refine ⟨_, PI.or (pi_list he.run) (PI.or (pi_tup he.run) (pi_str he.run)), fun σ H R F ad env S re rs h => ?_⟩
  -- the value is known ahead
  simp only [itf, bd] at h
  cases q : f env S with
  | no => rw [q] at h; exact h.elim
  | ex x S1 =>
    rw [q] at h
    exact .inl ⟨F, ad, env, S, re, rs, by rw [q]; exact h⟩
  | ok d S1 =>
    rw [q] at h
    cases d with
    | lst ds =>
      refine .inl ⟨F, ad, env, S, re, rs, ?_⟩
      rw [q]
      intro v F1 ad1 H1 n1 r1 p1
      obtain ⟨a, vs, rfl, h1, h2⟩ := p1
      exact ⟨a, rfl, ⟨vs, SqL.of (r1.sub _ _ h1)⟩, h _ F1 ad1 H1 n1 r1 (itOk_list (SqL.of h1) h2)⟩
    | scr ns =>
      refine .inl ⟨F, ad, env, S, re, rs, ?_⟩
      rw [q]
      intro v F1 ad1 H1 n1 r1 p1
      obtain ⟨a, rfl, h1⟩ := p1
      exact ⟨a, rfl, ⟨_, sqL_mono r1.sub h1⟩, h _ F1 ad1 H1 n1 r1 (itOk_list h1 (dps_ints ns))⟩
    | tup ds =>
      refine .inr (.inl ⟨F, ad, env, S, re, rs, ?_⟩)
      rw [q]
      intro v F1 ad1 H1 n1 r1 p1
      obtain ⟨a, vs, rfl, h1, h2⟩ := p1
      exact ⟨a, rfl, ⟨vs, sqT_mono r1.sub h1.sq⟩, h _ F1 ad1 H1 n1 r1 (itOk_tup h1.sq h2)⟩
    | str x =>
      refine .inr (.inr ⟨F, ad, env, S, re, rs, ?_⟩)
      rw [q]
      intro v F1 ad1 H1 n1 r1 p1
      exact ⟨x, p1, h _ F1 ad1 H1 n1 r1 (itOk_str x)⟩
    | non => exact h.elim
    | bl _ => exact h.elim
    | int _ => exact h.elim
    | obj _ => exact h.elim
    | err a dd ns ds => exact h.elim
    | utp _ => exact h.elim
/-- range(..) -/
def rng (lo hi : Int) : List D := (List.range (hi - lo).toNat).map fun (k : Nat) => .int (lo + k)
def inR (n : Int) : Prop := -(2 ^ 62) ≤ n ∧ n < 2 ^ 62
instance (n : Int) : Decidable (inR n) := inferInstanceAs (Decidable (_ ∧ _))
def rng1M : List D → M (List D)
  | [.int n] => if inR n then pur (rng 0 n) else mno
  | _ => mno
def rng2M : List D → M (List D)
  | [.int lo, .int hi] => if inR lo ∧ inR hi then pur (rng lo hi) else mno
  | _ => mno
def itr1 (t : Env → M (List D)) : Env → M (List D) := fun env => bd (t env) rng1M
def itr2 (t : Env → M (List D)) : Env → M (List D) := fun env => bd (t env) rng2M
theorem itOk_rng {F ad L} (lo hi : Int) : ItOk X F ad L (rng lo hi) (Itr lo (hi - lo).toNat) := fun F' ad' S' H' g rs i => by
  unfold rng
  refine ⟨fun d e => ?_, fun h => by show (hi - lo).toNat ≤ i; rw [List.length_map, List.length_range] at h; exact h⟩
  rw [List.getElem?_map] at e
  cases q : (List.range (hi - lo).toNat)[i]? with
  | none => rw [q] at e; cases e
  | some k =>
    rw [q] at e; cases e
    have hi : i < (hi - lo).toNat := by have := lt_of_some q; simpa using this
    rw [List.getElem?_range hi] at q
    cases q
    exact ⟨hi, fun y H'' ⟨h1, h2⟩ => by rw [h1]; exact ⟨F', ad', .refl, rs, h2⟩⟩
theorem fi_range1 {tg a : Expr} {t : Env → M (List D)} {p pos : Pos} (hg : Gl X "range") (hm : X.mg "range" = none) (ha : FA X W [a] t) (hs : starEach [a] X.env = [(false, eval a X.env)] := by rfl) : FI X W tg (.Call (.Name "range" p) [a] [] pos) (itr1 t) := by
  refine ⟨_, pi_range1 hg hm ha.run hs, fun σ H R F ad env S re rs h => ⟨F, ad, env, S, re, rs, Fin.seq re h fun F1 ad1 S1 ds vs H1 n1 re1 rs1 dp1 h1 => ?_⟩⟩
  unfold rng1M at h1
  split at h1
  · rename_i n
    obtain ⟨c, h1⟩ := Fin.ift h1
    obtain ⟨v, r, e, d1, e2⟩ := dp1
    cases d1; cases e2; cases e
    refine ⟨n, rfl, c.1, c.2, Fin.pure rs1 h1 ?_⟩
    have := itOk_rng (X := X) (F := F1) (ad := ad1) (L := S1.length) 0 n
    rw [Int.sub_zero] at this
    exact this
  · exact h1.elim
theorem fi_range2 {tg a b : Expr} {t : Env → M (List D)} {p pos : Pos} (hg : Gl X "range") (hm : X.mg "range" = none) (ha : FA X W [a, b] t) (hs : starEach [a, b] X.env = [(false, eval a X.env), (false, eval b X.env)] := by rfl) (hs2 : starEach [b] X.env = [(false, eval b X.env)] := by rfl) :
    FI X W tg (.Call (.Name "range" p) [a, b] [] pos) (itr2 t) := by
  refine ⟨_, pi_range2 hg hm ha.run hs hs2, fun σ H R F ad env S re rs h => ⟨F, ad, env, S, re, rs, Fin.seq re h fun F1 ad1 S1 ds vs H1 n1 re1 rs1 dp1 h1 => ?_⟩⟩
  unfold rng2M at h1
  split at h1
  · rename_i lo hi
    obtain ⟨c, h1⟩ := Fin.ift h1
    obtain ⟨v, r, e, d1, v2, r2, e2, d2, e3⟩ := dp1
    cases d1; cases d2; cases e3; cases e2; cases e
    exact ⟨lo, hi, rfl, ⟨c.1.1, c.1.2, c.2.1, c.2.2⟩, Fin.pure rs1 h1 (itOk_rng lo hi)⟩
  · exact h1.elim

/-! ### loops -/
def loop (t : D → Env → Option Env) (b : Env → MS) : List D → Env → MS
  | [], env => fun S => .ok (.nx env) S
  | d :: ds, env => fun S => match t d env with
    | none => .no
    | some env1 => match b env1 S with
      | .ok (.nx env2) S' => loop t b ds env2 S'
      | .ok (.ct env2) S' => loop t b ds env2 S'
      | .ok (.bk env2) S' => .ok (.nx env2) S'
      | r => r
def forS (m : Env → M (List D)) (t : D → Env → Option Env) (b : Env → MS) : Env → MS := fun env => lft (m env) env fun ds => loop t b ds env
theorem fs_for {tg iter : Expr} {body : List Stmt} {m : Env → M (List D)} {ws : List Nat} {t : D → Env → Option Env} {b : Env → MS} (hp : PassesOwn (model X.prog X.w) X.A X.env X.xe) (hc : X.calm = true) (hi : FI X W tg iter m) (hg : FG X tg ws t) (hb : FSs X W body b)
    (hs : ∀ x, foldedSetIterable iter X.env x = pure x := by intro _; rfl) : FS X W (.For tg iter body [] pos) (forS m t b) := by
  obtain ⟨wi, pi, hwi⟩ := hi
  obtain ⟨r, pg, hq⟩ := hg
  refine ⟨PS.weakI (ps_for hp hc pi pg hb.run hs) fun D σ H hl ⟨F, ad, env, S, re, rs, h⟩ => ?_⟩
  refine hwi σ H _ F ad env S re rs (FinS.seqE re hl h fun F1 ad1 S1 ds J H1 n1 re1 rs1 it1 h1 => ?_)
  -- the turns
  refine ⟨fun i k σ' H' => k = ds.length - i ∧ i ≤ ds.length ∧ σ'.length = X.N.length ∧ ∃ F' ad' env' S', Gr F1 ad1 S1.length F' ad' S'.length ∧ RE X.K F' ad' S'.length env' σ' ∧ RS X.K F' ad' S' H' ∧ FinS X W D F' ad' S' H' (loop t b (ds.drop i) env' S'),
    ⟨ds.length, by simp, Nat.zero_le _, hl, F1, ad1, env, S1, .refl, re1, rs1, by simpa using h1⟩, ?_⟩
  rintro i k σ' H' ⟨rfl, hi, hl', F', ad', env', S', g', re', rs', h'⟩
  obtain ⟨itg, its⟩ := it1 F' ad' S' H' g' rs' i
  by_cases hlt : i < ds.length
  · have hd : ds[i]? = some ds[i] := by simp [hlt]
    obtain ⟨jg, jy⟩ := itg _ hd
    have ed : ds.drop i = ds[i] :: ds.drop (i + 1) := by rw [List.drop_eq_getElem_cons hlt]
    rw [ed] at h'
    refine .inr ⟨jg, fun σ2 H2 => σ2.length = X.N.length ∧ ∃ F' ad' env' S', Gr F1 ad1 S1.length F' ad' S'.length ∧ RE X.K F' ad' S'.length env' σ2 ∧ RS X.K F' ad' S' H2 ∧ FinS X W D F' ad' S' H2 (loop t b (ds.drop (i + 1)) env' S'),
      fun σ2 H2 q => ⟨ds.length - (i + 1), by omega, rfl, hlt, q⟩, fun x H'' y => ?_⟩
    obtain ⟨F2, ad2, n2, rs2, dx⟩ := jy x H'' y
    have h' := FinS.from n2 h'
    have re' := re'.mono n2.gr
    have g' : Gr F1 ad1 S1.length F2 ad2 S'.length := ⟨fun a o z => n2.fsub a o (g'.f a o z), g'.l, fun n z => by rw [n2.adk n (Nat.lt_of_lt_of_le z g'.l), g'.a n z]⟩
    have rs' := rs2
    clear n2 rs2
    simp only [loop] at h'
    cases e1 : t ds[i] env' with
    | none => rw [e1] at h'; exact h'.elim
    | some env1 =>
      rw [e1] at h'
      refine hq ds[i] x env' env1 σ' F2 ad2 S' H'' _ rs' dx re' hl' e1 fun σ2 re2 b2 => ⟨F2, ad2, env1, S', re2, rs', ?_⟩
      simp only at h'
      cases e2 : b env1 S' with
      | no => rw [e2] at h'; exact h'
      | ex x1 env3 S3 => rw [e2] at h'; exact h'
      | ok fl S3 =>
        rw [e2] at h'
        cases fl with
        | rt d => exact h'
        | nx env3 => exact fun σ3 F3 ad3 H3 n3 rs3 re3 l3 => ⟨l3, F3, ad3, env3, S3, ⟨fun a o z => n3.fsub a o (g'.f a o z), Nat.le_trans g'.l n3.len, fun n z => by rw [n3.adk n (Nat.lt_of_lt_of_le z g'.l), g'.a n z]⟩, re3, rs3, FinS.from n3 h'⟩
        | ct env3 => exact fun σ3 F3 ad3 H3 n3 rs3 re3 l3 => ⟨l3, F3, ad3, env3, S3, ⟨fun a o z => n3.fsub a o (g'.f a o z), Nat.le_trans g'.l n3.len, fun n z => by rw [n3.adk n (Nat.lt_of_lt_of_le z g'.l), g'.a n z]⟩, re3, rs3, FinS.from n3 h'⟩
        | bk env3 => exact h'
  · have e : i = ds.length := by omega
    subst e
    refine .inl ⟨its (Nat.le_refl _), ?_⟩
    rw [List.drop_length] at h'
    exact h' σ' F' ad' H' .refl rs' re' hl'
/-- while c: b, at most n turns -/
def wloop (c : Env → M Bool) (b : Env → MS) : Nat → Env → MS
  | 0, _ => fun _ => .no
  | n + 1, env => lft (c env) env fun k => if k = true then (fun S => match b env S with
      | .ok (.nx env2) S' => wloop c b n env2 S'
      | .ok (.ct env2) S' => wloop c b n env2 S'
      | .ok (.bk env2) S' => .ok (.nx env2) S'
      | r => r) else fun S => .ok (.nx env) S
def whileS (n : Env → Store → Nat) (c : Env → M Bool) (b : Env → MS) : Env → MS := fun env S => wloop c b (n env S) env S
theorem fs_while {n : Env → Store → Nat} {c : Expr} {body : List Stmt} {p : Env → M Bool} {b : Env → MS} (hp : PassesOwn (model X.prog X.w) X.A X.env X.xe) (hc : FT X W c p) (hb : FSs X W body b) : FS X W (.While c body [] pos) (whileS n p b) := by
  refine ⟨PS.weakI (ps_while hp hc.run hb.run) fun D σ H hl ⟨F, ad, env, S, re, rs, h⟩ => ?_⟩
  refine ⟨fun k σ' H' => σ'.length = X.N.length ∧ ∃ F' ad' env' S', RE X.K F' ad' S'.length env' σ' ∧ RS X.K F' ad' S' H' ∧ FinS X W D F' ad' S' H' (wloop p b k env' S'), ⟨_, hl, F, ad, env, S, re, rs, h⟩, ?_⟩
  rintro k σ' H' ⟨hl', F', ad', env', S', re', rs', h'⟩
  cases k with
  | zero => exact h'.elim
  | succ k =>
    refine ⟨F', ad', env', S', re', rs', FinS.seqE re' hl' (show FinS X W D F' ad' S' H' (lft (p env') env' _ S') from h') fun F1 ad1 S1 d v H1 n1 re1 rs1 dp1 h1 => ?_⟩
    subst dp1
    cases d with
    | false => exact iteF (h1 σ' F1 ad1 H1 .refl rs1 re1 hl')
    | true =>
      refine iteT ⟨fun σ2 H2 => σ2.length = X.N.length ∧ ∃ F' ad' env' S', RE X.K F' ad' S'.length env' σ2 ∧ RS X.K F' ad' S' H2 ∧ FinS X W D F' ad' S' H2 (wloop p b k env' S'), fun σ2 H2 q => ⟨k, Nat.lt_succ_self k, q⟩, F1, ad1, env', S1, re1, rs1, ?_⟩
      simp only [if_true] at h1
      cases e2 : b env' S1 with
      | no => rw [e2] at h1; exact h1
      | ex x1 env3 S3 => rw [e2] at h1; exact h1
      | ok fl S3 =>
        rw [e2] at h1
        cases fl with
        | rt d => exact h1
        | nx env3 => exact fun σ3 F3 ad3 H3 n3 rs3 re3 l3 => ⟨l3, F3, ad3, env3, S3, re3, rs3, FinS.from n3 h1⟩
        | ct env3 => exact fun σ3 F3 ad3 H3 n3 rs3 re3 l3 => ⟨l3, F3, ad3, env3, S3, re3, rs3, FinS.from n3 h1⟩
        | bk env3 => exact h1
end
end Fx

end
/-! ## Fx4 -/
section
namespace Fx
open PySem PySem.Spec PyProof.Rows L2
variable [tb : Tabl]

/-! ### a private object -/
section
variable {K : PySem.W.Frag} {F H : Hp} {ad : Nat → Addr} {S : Store} {p : Addr} {o : HO}
theorem tabs_priv {T : List (Addr × Str)} {b : Addr} {u : HO} (t : LamX.Tabs T H) (hq : ∀ u, H b = some u → (∀ ps, u ≠ .tbl ps) ∧ ∀ c q, u ≠ LamX.CodeO c q) : LamX.Tabs T (upd H b u) := by
  cases e : H b with
  | none => exact t.ext fun a v q => by rw [upd_ne (ne_of_none q e)]; exact q
  | some v => exact tabs_put t e (hq v e).1 (hq v e).2
theorem lst_ne {xs : List V} : (∀ ps, HO.lst xs ≠ .tbl ps) ∧ ∀ c q, HO.lst xs ≠ LamX.CodeO c q := ⟨fun ps z => (by cases z), fun c q z => by unfold LamX.CodeO at z; cases z⟩
theorem none_ne (h : H p = none) : ∀ u, H p = some u → (∀ ps, u ≠ .tbl ps) ∧ ∀ c q, u ≠ LamX.CodeO c q := fun u e => by rw [h] at e; cases e
theorem some_ne {xs : List V} (h : H p = some (.lst xs)) : ∀ u, H p = some u → (∀ ps, u ≠ .tbl ps) ∧ ∀ c q, u ≠ LamX.CodeO c q := fun u e => by rw [h] at e; cases e; exact lst_ne
theorem dk_ne {xs : List (Key × V)} : (∀ ps, HO.dK xs ≠ .tbl ps) ∧ ∀ c q, HO.dK xs ≠ LamX.CodeO c q := ⟨fun ps z => (by cases z), fun c q z => by unfold LamX.CodeO at z; cases z⟩
theorem some_nk {xs : List (Key × V)} (h : H p = some (.dK xs)) : ∀ u, H p = some u → (∀ ps, u ≠ .tbl ps) ∧ ∀ c q, u ≠ LamX.CodeO c q := fun u e => by rw [h] at e; cases e; exact dk_ne
theorem RS.priv (rs : RS K F ad S H) (hF : F p = none) (hl : ¬ Live S ad p) (hq : ∀ u, H p = some u → (∀ ps, u ≠ .tbl ps) ∧ ∀ c q, u ≠ LamX.CodeO c q) : RS K F ad S (upd H p o) := by
  refine ⟨fun a u e => ?_, fun n od e => ?_, rs.inj, tabs_priv rs.tab hq, rs.ntb⟩
  · have : a ≠ p := ne_of_none e hF
    rw [upd_ne this]; exact rs.sub a u e
  · obtain ⟨h1, u, h2, h3⟩ := rs.liv n od e
    have : ad n ≠ p := fun z => hl ⟨n, od, e, z⟩
    exact ⟨h1, u, by rw [upd_ne this]; exact h2, h3⟩
theorem Nx.priv {F' ad' S' H'} (x : Nx F ad S H F' ad' S' H') (hp : H p = none) : Nx F ad S H F' ad' S' (upd H' p o) := by
  refine ⟨x.fsub, x.fnew, x.len, x.adk, x.snew, fun a u e l t => ?_, fun a e => ?_⟩
  · rw [upd_ne (ne_of_none e hp)]; exact x.keep a u e l t
  · by_cases ha : a = p
    · subst ha; exact .inl hp
    · refine x.back a ?_; unfold Fr at e ⊢; rw [upd_ne ha] at e; exact e
/-- a step leaves a private object private -/
theorem Nx.still {F' ad' S' H'} (x : Nx F ad S H F' ad' S' H') (hH : H p = some o) (hF : F p = none) (hl : ¬ Live S ad p) (ho : ∀ ps, o ≠ .tbl ps) : H' p = some o ∧ F' p = none ∧ ¬ Live S' ad' p := by
  refine ⟨x.keep p o hH hl ho, ?_, fun h => ?_⟩
  · cases q : F' p with
    | none => rfl
    | some u =>
      rcases x.fnew p u q with h | h | h
      · rw [hF] at h; cases h
      · exact (fr_no hH ho h).elim
      · exact absurd h hl
  · rcases x.live_back h with h | h
    · exact hl h
    · exact fr_no hH ho h
/-- a private object becomes plain -/
theorem RS.adopt (rs : RS K F ad S H) (hH : H p = some o) (hF : F p = none) (hl : ¬ Live S ad p) (hn : ∀ ps, o ≠ .tbl ps := by intro ps z; cases z) : RS K (upd F p o) ad S H := by
  refine ⟨fun a u e => ?_, fun n od e => ?_, rs.inj, rs.tab, ntb_upd rs.ntb hn⟩
  · by_cases ha : a = p
    · subst ha; rw [upd_same] at e; rw [← e]; exact hH
    · rw [upd_ne ha] at e; exact rs.sub a u e
  · obtain ⟨h1, u, h2, h3⟩ := rs.liv n od e
    have hn : ad n ≠ p := fun z => hl ⟨n, od, e, z⟩
    exact ⟨by rw [upd_ne hn]; exact h1, u, h2, OR.mono (Gr.alloc hF) od u h3⟩
theorem Nx.adopt {F' ad' S' H'} (x : Nx F ad S H F' ad' S' H') (hp : H p = none) (hF : F' p = none) : Nx F ad S H (upd F' p o) ad' S' H' := by
  refine ⟨fun a u e => ?_, fun a u e => ?_, x.len, x.adk, x.snew, x.keep, x.back⟩
  · have h := x.fsub a u e
    rw [upd_ne (ne_of_none h hF)]; exact h
  · by_cases ha : a = p
    · subst ha; exact .inr (.inl (.inl hp))
    · rw [upd_ne ha] at e; exact x.fnew a u e
/-- .. or a thing of the store -/
theorem RS.enrol {od : OD} (rs : RS K F ad S H) (hH : H p = some o) (hF : F p = none) (hl : ¬ Live S ad p) (ho : OR K F ad S.length od o) : RS K F (adn ad S.length p) (S ++ [some od]) H := by
  have hlen : (S ++ [some od]).length = S.length + 1 := by simp
  refine ⟨rs.sub, fun n od' e => ?_, fun n m od1 od2 e1 e2 e => ?_, rs.tab, rs.ntb⟩
  · rw [hlen]
    rcases new_cases e with ⟨hn, e'⟩ | ⟨hn, e'⟩
    · rw [adn_ne (Nat.ne_of_lt hn)]
      obtain ⟨h1, u, h2, h3⟩ := rs.liv n od' e'
      exact ⟨h1, u, h2, OR.mono Gr.new od' u h3⟩
    · subst hn; subst e'
      rw [adn_same]
      exact ⟨hF, o, hH, OR.mono Gr.new _ o ho⟩
  · rcases new_cases e1 with ⟨hn, q1⟩ | ⟨hn, q1⟩ <;> rcases new_cases e2 with ⟨hm, q2⟩ | ⟨hm, q2⟩
    · rw [adn_ne (Nat.ne_of_lt hn), adn_ne (Nat.ne_of_lt hm)] at e
      exact rs.inj n m _ _ q1 q2 e
    · subst hm
      rw [adn_ne (Nat.ne_of_lt hn), adn_same] at e
      exact absurd ⟨n, _, q1, e⟩ hl
    · subst hn
      rw [adn_ne (Nat.ne_of_lt hm), adn_same] at e
      exact absurd ⟨m, _, q2, e.symm⟩ hl
    · omega
theorem Nx.enrol {F' ad' S' H'} {od : OD} (x : Nx F ad S H F' ad' S' H') (hp : H p = none) : Nx F ad S H F' (adn ad' S'.length p) (S' ++ [some od]) H' := by
  refine ⟨x.fsub, x.fnew, by rw [List.length_append]; exact Nat.le_trans x.len (Nat.le_add_right _ _), fun n h => ?_, fun n od' e => ?_, x.keep, x.back⟩
  · rw [adn_ne (Nat.ne_of_lt (Nat.lt_of_lt_of_le h x.len))]; exact x.adk n h
  · rcases new_cases e with ⟨hn, q⟩ | ⟨hn, q⟩
    · rw [adn_ne (Nat.ne_of_lt hn)]; exact x.snew n od' q
    · subst hn; rw [adn_same]; exact .inr (.inl hp)
end

/-! ### slots forgotten -/
def wipeE (env : Env) : List Nat → Env
  | [] => env
  | v :: vs => (wipeE env vs).set v none
theorem wipe_get {σ : L2.St} {j : Nat} : ∀ {vs : List Nat}, (j ∉ vs → (wipe σ vs)[j]? = σ[j]?) ∧ (j ∈ vs → j < σ.length → (wipe σ vs)[j]? = some none)
  | [] => ⟨fun _ => rfl, fun h => nomatch h⟩
  | v :: vs => by
    obtain ⟨h1, h2⟩ := wipe_get (σ := σ) (j := j) (vs := vs)
    refine ⟨fun h => ?_, fun h hl => ?_⟩
    · rw [List.mem_cons, not_or] at h
      show ((wipe σ vs).set v none)[j]? = _
      rw [List.getElem?_set_ne (Ne.symm h.1)]; exact h1 h.2
    · show ((wipe σ vs).set v none)[j]? = _
      by_cases e : v = j
      · subst e
        rw [List.getElem?_set_self (by rw [wipe_length]; exact hl)]
      · rw [List.getElem?_set_ne e]
        rcases List.mem_cons.mp h with q | q
        · exact absurd q.symm e
        · exact h2 q hl
theorem wipe_but {σ σ' : L2.St} {ws vs : List Nat} (b : But ws (wipe σ vs) σ') (hs : ∀ j ∈ ws, j ∈ vs) : wipe σ' vs = wipe σ vs := by
  have hl : σ'.length = σ.length := by rw [b.1, wipe_length]
  apply List.ext_getElem?
  intro j
  by_cases hj : j ∈ vs
  · by_cases hlt : j < σ.length
    · rw [wipe_get.2 hj (by rw [hl]; exact hlt), wipe_get.2 hj hlt]
    · rw [List.getElem?_eq_none (by rw [wipe_length, hl]; omega), List.getElem?_eq_none (by rw [wipe_length]; omega)]
  · rw [wipe_get.1 hj, b.2 j (fun z => hj (hs j z))]
theorem wipeE_some {env : Env} {j : Nat} {d : D} : ∀ {vs : List Nat}, (wipeE env vs)[j]? = some (some d) → env[j]? = some (some d) ∧ j ∉ vs
  | [], h => ⟨h, by simp⟩
  | v :: vs, h => by
    unfold wipeE at h
    by_cases hv : v = j
    · subst hv
      by_cases hl : v < (wipeE env vs).length
      · rw [List.getElem?_set_self hl] at h; cases h
      · rw [List.getElem?_eq_none (by simpa using hl)] at h; cases h
    · rw [List.getElem?_set_ne hv] at h
      obtain ⟨h1, h2⟩ := wipeE_some h
      exact ⟨h1, by rw [List.mem_cons, not_or]; exact ⟨fun e => hv e.symm, h2⟩⟩
theorem RE.wipe {K F ad L env σ} (re : RE K F ad L env σ) (vs : List Nat) : RE K F ad L (wipeE env vs) (L2.wipe σ vs) := fun i d e => by
  obtain ⟨h1, h2⟩ := wipeE_some e
  obtain ⟨v, h3, h4⟩ := re i d h1
  exact ⟨v, by rw [wipe_get.1 h2]; exact h3, h4⟩

theorem PE.weakI {X : Cx} {e : Expr} {t t' : TE} (h : PE X e t) (w : ∀ σ H Q, σ.length = X.N.length → t' σ H Q → t σ H Q) : PE X e t' := ⟨fun pins s σ H Q I q => h.run pins s σ H Q I (w _ _ _ I.len q)⟩

/-! ### comprehensions -/
/-- no error comes out of it -/
def bdN {α β : Type} (m : M α) (k : α → M β) : M β := fun S => match m S with
  | .ok a S' => k a S'
  | _ => .no
def compL (mk : List D → M D) (t : D → Env → Option Env) (c : Env → M Bool) (el : Env → M D) (env0 : Env) : List D → List D → M D
  | [], acc => mk acc
  | d :: ds, acc => match t d env0 with
    | none => mno
    | some env1 => bdN (c env1) fun b => if b = true then bdN (el env1) fun y => if acc.length < sizeLine then compL mk t c el env0 ds (acc ++ [y]) else mno else compL mk t c el env0 ds acc
def cmp (vs : List Nat) (mk : List D → M D) (m : Env → M (List D)) (t : D → Env → Option Env) (c : Env → M Bool) (el : Env → M D) : Env → M D := fun env => bd (m env) fun ds => compL mk t c el (wipeE env vs) ds []
/-- how the new list is kept: plain, or as a thing of the store -/
def KpOk (X : Cx) (mk : List D → M D) : Prop := ∀ (W : WX) (σ : L2.St) F0 ad0 S0 H0 F ad S H (Q : VK) (ds : List D) (vs : List V) (p : Addr), RS X.K F ad S H → DPs X.K F ad S.length ds vs → H p = some (.lst vs) → F p = none → ¬ Live S ad p → Nx F0 ad0 S0 H0 F ad S H → H0 p = none →
  Fin X W (DP X.K) σ F0 ad0 S0 H0 (mk ds S) Q → Q (.ref p) H
theorem kp_L {X : Cx} : KpOk X mkL := fun W σ F0 ad0 S0 H0 F ad S H Q ds vs p rs dp hH hF hl n hp h => by
  unfold mkL at h
  split at h
  case isFalse => exact h.elim
  exact h (.ref p) _ ad H (n.adopt hp hF) (rs.adopt hH hF hl) ⟨p, vs, rfl, upd_same, DPs.mono (Gr.alloc hF) ds vs dp⟩
theorem kp_N {X : Cx} : KpOk X mkN := fun W σ F0 ad0 S0 H0 F ad S H Q ds vs p rs dp hH hF hl n hp h => by
  unfold mkN at h
  split at h
  case isFalse => exact h.elim
  exact h (.ref p) F _ H (n.enrol hp) (rs.enrol hH hF hl ⟨vs, rfl, dp⟩) ⟨by simp, by rw [adn_same]⟩
theorem Fin.bdN {α β α' β' : Type} {X X' : Cx} {W W' : WX} {RR : Hp → (Nat → Addr) → Nat → α → β → Prop} {RR' : Hp → (Nat → Addr) → Nat → α' → β' → Prop} {m : M α} {k : α → M α'} {σ σ' : L2.St} {F0 ad0 S0 H0} {H : Hp} {Q : β' → Hp → Prop} {Q1 : β → Hp → Prop}
    {F : Hp} {ad : Nat → Addr} {S : Store} (hK : X'.K = X.K) (h : Fin X W RR' σ F0 ad0 S0 H0 (bdN m k S) Q)
    (hk : ∀ F1 ad1 S1 d v H1, Nx F ad S H F1 ad1 S1 H1 → RS X.K F1 ad1 S1 H1 → RR F1 ad1 S1.length d v → Fin X W RR' σ F0 ad0 S0 H0 (k d S1) Q → Q1 v H1) :
    Fin X' W' RR σ' F ad S H (m S) Q1 := by
  simp only [Fx.bdN] at h
  cases e : m S with
  | ok d S1 =>
    rw [e] at h
    exact fun v F1 ad1 H1 n1 r1 p1 => hk F1 ad1 S1 d v H1 n1 (by rw [← hK]; exact r1) p1 h
  | ex x S1 => rw [e] at h; exact h.elim
  | no => rw [e] at h; exact h.elim
abbrev W0 : WX := fun _ _ _ _ => False
section
variable {X : Cx} {W : WX} {pos : Pos}
/-- a target's reading -/
def gF (K : PySem.W.Frag) (n : Nat) (ws : List Nat) (t : D → Env → Option Env) : TG := fun v σ H Q => ∃ F ad S env d env', RS K F ad S H ∧ DP K F ad S.length d v ∧ RE K F ad S.length env σ ∧ σ.length = n ∧ t d env = some env' ∧
  ∀ σ', RE K F ad S.length env' σ' → But ws σ σ' → Q σ' H
theorem FG.pg {tg : Expr} {ws : List Nat} {t : D → Env → Option Env} (h : FG X tg ws t) : PG X tg (gF X.K X.N.length ws t) := by
  obtain ⟨r, hr, hq⟩ := h
  refine ⟨fun pins s σ H v u Q I rv q => ?_⟩
  obtain ⟨F, ad, S, env, d, env', rs, dp, re, hl, e, k⟩ := q
  exact hr.run pins s σ H v u Q I rv (hq d v env env' σ F ad S H Q rs dp re hl e k)
theorem lc_pre {tg iter : Expr} {scope : Scope} {own : List (Str × Nat)} {mk : List D → M D} {it : Env → M (List D)} {ws : List Nat} {t : D → Env → Option Env} {c : Env → M Bool} {el : Env → M D} {wi : TI}
    (hmk : KpOk X mk) (hws : ∀ j ∈ ws, j ∈ own.map (·.2))
    (hwi : ∀ σ H (R : It → Hp → Prop) F ad env S, RE X.K F ad S.length env σ → RS X.K F ad S H → Fin X W (ItOk X) σ F ad S H (it env S) R → wi σ H R)
    {σ : L2.St} {F ad env S H} {Q : VK} (hl : σ.length = X.N.length) (re : RE X.K F ad S.length env σ) (rs : RS X.K F ad S H)
    (h : Fin X W (DP X.K) σ F ad S H (cmp (own.map (·.2)) mk it t c el env S) Q) : tLc wi (gF X.K X.N.length ws t) (tB X W0 c) (tF X W0 el) (own.map (·.2)) σ H Q := by
  refine hwi σ H _ F ad env S re rs (Fin.seq re h fun F1 ad1 S1 ds J H1 n1 re1 rs1 it1 h1 => fun Da hDa => ?_)
  have nl1 : ¬ Live S1 ad1 Da := fun ⟨n, od, e, z⟩ => by
    obtain ⟨_, u, h2, _⟩ := rs1.liv n od e
    rw [z, hDa] at h2; cases h2
  let Nt : Nat → Hp → Prop := fun i H' => i ≤ ds.length ∧ ∃ F' ad' S' acc vs, Nx F1 ad1 S1 H1 F' ad' S' H' ∧ RS X.K F' ad' S' H' ∧ H' Da = some (.lst vs) ∧ DPs X.K F' ad' S'.length acc vs ∧ F' Da = none ∧ ¬ Live S' ad' Da ∧
    Fin X W (DP X.K) σ F1 ad1 S1 H1 (compL mk t c el (wipeE env (own.map (·.2))) (ds.drop i) acc S') Q
  refine ⟨fun i k H' => k = ds.length - i ∧ Nt i H', ⟨ds.length, by simp, Nat.zero_le _, F1, ad1, S1, [], [], .priv .refl hDa, rs1.priv (F_none rs1 hDa) nl1 (none_ne hDa), upd_same, rfl, F_none rs1 hDa, nl1, by simpa using h1⟩, ?_⟩
  rintro i k H' ⟨rfl, hi, F', ad', S', acc, vs, n', rs', hH, dacc, hF, nl, h'⟩
  obtain ⟨itg, its⟩ := it1 F' ad' S' H' n'.gr rs' i
  by_cases hlt : i < ds.length
  · obtain ⟨jg, jy⟩ := itg ds[i] (by simp [hlt])
    rw [show ds.drop i = ds[i] :: ds.drop (i + 1) by rw [List.drop_eq_getElem_cons hlt]] at h'
    refine .inr ⟨jg, Nt (i + 1), fun H2 q => ⟨ds.length - (i + 1), by omega, rfl, q⟩, fun x H'' y => ?_⟩
    obtain ⟨Fy, ady, ny, rsy, dx⟩ := jy x H'' y
    obtain ⟨kk1, kk2, kk3⟩ := ny.still hH hF nl lst_ne.1
    have hH := kk1
    have hF := kk2
    have nl := kk3
    have n' := n'.trans ny
    have dacc := DPs.mono ny.gr _ _ dacc
    unfold compL at h'
    cases e1 : t ds[i] (wipeE env (own.map (·.2))) with
    | none => simp only [e1] at h'; exact h'.elim
    | some env1 =>
      simp only [e1] at h'
      refine ⟨Fy, ady, S', _, ds[i], env1, rsy, dx, (re1.mono n'.gr).wipe _, by rw [wipe_length]; exact hl, e1, fun σ2 re2 b2 => ⟨wipe_but b2 hws, ?_⟩⟩
      refine ⟨Fy, ady, env1, S', re2, rsy, Fin.bdN rfl h' fun F2 ad2 S2 b b' H2 n2 rs2 eb h2 => ?_⟩
      subst eb
      obtain ⟨k1, k2, k3⟩ := n2.still hH hF nl lst_ne.1
      cases b with
      | false => exact iteF ⟨hlt, F2, ad2, S2, acc, vs, n'.trans n2, rs2, k1, DPs.mono n2.gr _ _ dacc, k2, k3, by simpa using h2⟩
      | true =>
        refine iteT ⟨F2, ad2, env1, S2, re2.mono n2.gr, rs2, Fin.bdN rfl (show Fin X W (DP X.K) σ F1 ad1 S1 H1 (Fx.bdN (el env1) _ S2) Q by simpa using h2) fun F3 ad3 S3 yd yv H3 n3 rs3 dp3 h3 => ?_⟩
        split at h3
        case isFalse => exact h3.elim
        rename_i c3
        obtain ⟨l1, l2, l3⟩ := n3.still k1 k2 k3 lst_ne.1
        refine ⟨vs, l1, by rw [← dacc.length]; exact c3, hlt, F3, ad3, S3, acc ++ [yd], vs ++ [yv], .priv (n'.trans (n2.trans n3)) hDa, rs3.priv l2 l3 (some_ne l1), upd_same, ?_, l2, l3, h3⟩
        exact (DPs.mono (n2.trans n3).gr _ _ dacc).append (DPs.one dp3)
  · have e : i = ds.length := by omega
    subst e
    rw [List.drop_length] at h'
    exact .inl ⟨its (Nat.le_refl _), hmk W σ F1 ad1 S1 H1 F' ad' S' H' Q acc vs Da rs' dacc hH hF nl n' hDa h'⟩
theorem fe_lc {elt tg iter : Expr} {ifs : List Expr} {scope : Scope} {own : List (Str × Nat)} {mk : List D → M D} {it : Env → M (List D)} {ws : List Nat} {t : D → Env → Option Env} {c : Env → M Bool} {el : Env → M D}
    (hmk : KpOk X mk) (hc : X.calm = true) (hN : X.N.Nodup) (hi : FI X W tg iter it) (ok : BlkOk X.N X.env.scope scope own) (hws : ∀ j ∈ ws, j ∈ own.map (·.2))
    (hg : ∀ (s : Shared) (H : Hp) (C : Addr) (cl : List (Str × Addr)) (fp : List Addr), FG (X.blk s H scope (compEnvC scope cl C X.env) fp) tg ws t)
    (ht : ∀ (s : Shared) (H : Hp) (C : Addr) (cl : List (Str × Addr)) (fp : List Addr), PTs (X.blk s H scope (compEnvC scope cl C X.env) fp) ifs (tB X W0 c))
    (he : ∀ (s : Shared) (H : Hp) (C : Addr) (cl : List (Str × Addr)) (fp : List Addr), FE (X.blk s H scope (compEnvC scope cl C X.env) fp) W0 elt el)
    (hs : ∀ x, foldedSetIterable iter X.env x = pure x := by intro _; rfl) :
    FE X W (.ListComp elt [⟨tg, iter, ifs, 0⟩] scope pos) (cmp (own.map (·.2)) mk it t c el) := by
  obtain ⟨wi, pi, hwi⟩ := hi
  refine ⟨PE.weakI (pe_lc (own := own) (g := gF X.K X.N.length ws t) (tt := tB X W0 c) (te := tF X W0 el) hc hN pi ok (fun s H C cl fp => (hg s H C cl fp).pg) ht (fun s H C cl fp => (he s H C cl fp).run) hs) fun σ H Q hl ⟨F, ad, env, S, re, rs, h⟩ => ?_⟩
  exact lc_pre (scope := scope) (tg := tg) (iter := iter) hmk hws hwi hl re rs h
/-- y = [..] on one line, y a local -/
theorem fs_setLc {i : Nat} {y : Str} {py spos : Pos} {elt tg iter : Expr} {ifs : List Expr} {scope : Scope} {own : List (Str × Nat)} {mk : List D → M D} {it : Env → M (List D)} {ws : List Nat} {t : D → Env → Option Env} {c : Env → M Bool} {el : Env → M D}
    (hy : X.N[i]? = some y) (hyl : X.env.scope.names.lookup y = some .local)
    (hk : X.env.scope.kind = .function) (hln : (py.line == pos.line) = true) (ha : (scope.names.any fun (n, k) => n == y && (k == .local || k == .cell)) = false)
    (hmk : KpOk X mk) (hc : X.calm = true) (hN : X.N.Nodup) (hi : FI X W tg iter it) (ok : BlkOk X.N X.env.scope scope own) (hws : ∀ j ∈ ws, j ∈ own.map (·.2))
    (hg : ∀ (s : Shared) (H : Hp) (C : Addr) (cl : List (Str × Addr)) (fp : List Addr), FG (X.blk s H scope (compEnvC scope cl C X.env) fp) tg ws t)
    (ht : ∀ (s : Shared) (H : Hp) (C : Addr) (cl : List (Str × Addr)) (fp : List Addr), PTs (X.blk s H scope (compEnvC scope cl C X.env) fp) ifs (tB X W0 c))
    (he : ∀ (s : Shared) (H : Hp) (C : Addr) (cl : List (Str × Addr)) (fp : List Addr), FE (X.blk s H scope (compEnvC scope cl C X.env) fp) W0 elt el)
    (hs : ∀ x, foldedSetIterable iter X.env x = pure x := by intro _; rfl) :
    FS X W (.Assign [.Name y py] (.ListComp elt [⟨tg, iter, ifs, 0⟩] scope pos) spos) (set i (cmp (own.map (·.2)) mk it t c el)) := by
  obtain ⟨wi, pi, hwi⟩ := hi
  refine ⟨PS.weakI (ps_setLc (own := own) (g := gF X.K X.N.length ws t) (tt := tB X W0 c) (te := tF X W0 el) hc hN hy hyl (sw_true hk hyl hln ha) pi ok (fun s H C cl fp => (hg s H C cl fp).pg) ht (fun s H C cl fp => (he s H C cl fp).run) hs) fun D σ H hl ⟨F, ad, env, S, re, rs, h⟩ => ?_⟩
  have hil : i < σ.length := by rw [hl]; exact lt_of_some hy
  exact lc_pre (scope := scope) (tg := tg) (iter := iter) hmk hws hwi hl re rs (FinS.seqE re hl h fun F1 ad1 S1 d v H1 n1 re1 rs1 dp1 h1 => h1 _ F1 ad1 H1 .refl rs1 (re1.set dp1 hil) (by rw [List.length_set]; exact hl))
theorem pts_no {Y : Cx} (hK : Y.K = X.K) : PTs Y [] (tB X W0 (fun _ => pur true)) := ⟨fun pins s σ H Q I h => pts_nil.run pins s σ H Q I (by
  obtain ⟨F, ad, env, S, re, rs, h⟩ := h
  exact Fin.pure (d := true) rs h rfl)⟩
theorem pts_if {Y : Cx} {e : Expr} {c : Env → M Bool} (h : FT Y W0 e c) (hB : tB Y W0 c = tB X W0 c := by rfl) : PTs Y [e] (tB X W0 c) := by
  rw [← hB]
  exact pts_one h.run
end
end Fx

end
/-! ## Fx5 -/
section
namespace Fx
open PySem PySem.Spec PyProof.Rows L2
variable [tb : Tabl]

/-! ### built-ins -/
def CallF (X : Cx) (f : Value) (g : List D → M D) : Prop :=
  ∃ r, CallR X f r ∧ ∀ (W : WX) (σ : L2.St) F ad S H ds vs (Q : VK), RS X.K F ad S H → DPs X.K F ad S.length ds vs → Fin X W (DP X.K) σ F ad S H (g ds S) Q → r vs H Q
def cal (t : Env → M (List D)) (g : List D → M D) : Env → M D := fun env => bd (t env) g
section
variable {X : Cx} {W : WX} {pos p : Pos} {e : Expr} {es : List Expr} {f : Env → M D} {t : Env → M (List D)} {g : List D → M D}
theorem fe_callB {id : String} {x : Str} (hc : CallF X (.builtin id) g) (hg : Gl X x) (hm : X.mg x = none) (hv : bootBuiltins x = some (.builtin id)) (ha : FA X W (e :: es) t) (hn : x ≠ "__name__" := by decide)
    (hdb : (x == ("__debug__" : Str)) = false := by decide) (he : starEach (e :: es) X.env = (false, eval e X.env) :: starEach es X.env := by rfl) (hpl : (backTo pos (starEach es X.env)).any (·.1) = false := by rfl) :
    FE X W (.Call (.Name x p) (e :: es) [] pos) (cal t g) := by
  obtain ⟨r, hr, hq⟩ := hc
  exact ⟨PE.weak (pe_callB hr hg hm hv ha.run hn hdb he hpl) fun σ H Q ⟨F, ad, env, S, re, rs, h⟩ => ⟨F, ad, env, S, re, rs, Fin.seq re h fun F1 ad1 S1 d v H1 n1 re1 rs1 dp1 h1 => hq W σ F1 ad1 S1 H1 d v Q rs1 dp1 h1⟩⟩
theorem fe_callT {T : String} {x : Str} (hc : CallF X (.type T) g) (hg : Gl X x) (hm : X.mg x = none) (hv : bootBuiltins x = some (.type T)) (ha : FA X W (e :: es) t) (hn : x ≠ "__name__" := by decide)
    (hdb : (x == ("__debug__" : Str)) = false := by decide) (he : starEach (e :: es) X.env = (false, eval e X.env) :: starEach es X.env := by rfl) (hpl : (backTo pos (starEach es X.env)).any (·.1) = false := by rfl) :
    FE X W (.Call (.Name x p) (e :: es) [] pos) (cal t g) := by
  obtain ⟨r, hr, hq⟩ := hc
  exact ⟨PE.weak (pe_callTy hr hg hm hv ha.run hn hdb he hpl) fun σ H Q ⟨F, ad, env, S, re, rs, h⟩ => ⟨F, ad, env, S, re, rs, Fin.seq re h fun F1 ad1 S1 d v H1 n1 re1 rs1 dp1 h1 => hq W σ F1 ad1 S1 H1 d v Q rs1 dp1 h1⟩⟩
/-! ### isinstance -/
def tyM : D → M String
  | .non => pur "NoneType"
  | .bl _ => pur "bool"
  | .int _ => pur "int"
  | .str _ => pur "str"
  | .lst _ => pur "list"
  | .tup _ => pur "tuple"
  | .scr _ => mno
  | .err .. => mno
  | .utp _ => mno
  | .obj n => fun S => match S[n]? with
    | some (some (.lst _)) => .ok "list" S
    | some (some (.dct _)) => .ok "dict" S
    | _ => .no
theorem tyM_ex {d : D} {x : Ex} {S S' : Store} (h : tyM d S = .ex x S') : False := by
  cases d <;> simp [tyM, pur, mno] at h
  split at h <;> cases h
theorem tyM_at {F ad S H} {d : D} {v : V} {T : String} {S' : Store} (rs : RS X.K F ad S H) (dp : DP X.K F ad S.length d v) (h : tyM d S = .ok T S') : S' = S ∧ TyX X.K H v (.type T) := by
  cases d with
  | non => cases dp; cases h; exact ⟨rfl, .base .non⟩
  | bl b => cases dp; cases h; exact ⟨rfl, .base (.bl b)⟩
  | int b => cases dp; cases h; exact ⟨rfl, .base (.int b)⟩
  | str b => cases dp; cases h; exact ⟨rfl, .base (.str b)⟩
  | scr _ => cases h
  | err a dd ns ds => cases h
  | utp _ => cases h
  | lst xs =>
    obtain ⟨a, vs, rfl, h1, _⟩ := dp
    cases h; exact ⟨rfl, .base (.lst (rs.sub _ _ h1))⟩
  | tup xs =>
    obtain ⟨a, vs, rfl, h1, _⟩ := dp
    cases h
    refine ⟨rfl, ?_⟩
    rcases h1 with ⟨o, h1, _⟩ | ⟨o, its, n, h1, h2, _⟩
    · exact .fTuple (rs.sub _ _ h1)
    · exact .kTuple h1 h2
  | obj n =>
    obtain ⟨hn, rfl⟩ := dp
    simp only [tyM] at h
    split at h
    · rename_i ys q
      cases h
      obtain ⟨h1, o, h2, vs, h3, h4⟩ := rs.liv n _ q
      subst h3
      exact ⟨rfl, .base (.lst h2)⟩
    · rename_i ys q
      cases h
      obtain ⟨h1, o, h2, vs, h3, h4⟩ := rs.liv n _ q
      subst h3
      exact ⟨rfl, .base (.dK h2)⟩
    · cases h
def isT (a T : String) : Bool := a == T || (a == "bool" && T == "int")
theorem kit_all : ∀ a ∈ ["NoneType", "bool", "int", "str", "list", "tuple", "dict"], ∀ T ∈ ["int", "bool", "str", "tuple", "list", "dict"], kitB a T = some (isT a T) := by decide +kernel
theorem tyM_in {d : D} {T : String} {S S' : Store} (h : tyM d S = .ok T S') : T ∈ ["NoneType", "bool", "int", "str", "list", "tuple", "dict"] := by
  cases d with
  | scr _ => cases h
  | err a dd ns ds => cases h
  | utp _ => cases h
  | obj n =>
    simp only [tyM] at h
    split at h
    · cases h; decide
    · cases h; decide
    · cases h
  | _ => (cases h; decide)
def isi (T : String) (f : Env → M D) : Env → M D := fun env => bd (f env) fun d => bd (tyM d) fun a => pur (.bl (isT a T))
theorem fe_isi {T : String} {x tn : Str} {p2 : Pos} (hx : x = "isinstance") (hT : T ∈ ["int", "bool", "str", "tuple", "list", "dict"]) (hg : Gl X x) (hm : X.mg x = none) (hg2 : Gl X tn) (hm2 : X.mg tn = none) (hv2 : bootBuiltins tn = some (.type T)) (hv : bootBuiltins x = some (.builtin "isinstance"))
    (ha : FE X W e f) (hn2 : tn ≠ "__name__" := by decide) (hdb2 : (tn == ("__debug__" : Str)) = false := by decide)
    (he1 : starEach [e, .Name tn p2] X.env = (false, eval e X.env) :: starEach [.Name tn p2] X.env := by rfl) (he2 : starEach [.Name tn p2] X.env = (false, eval (.Name tn p2) X.env) :: starEach [] X.env := by rfl)
    (hpl : (backTo pos (starEach [.Name tn p2] X.env)).any (·.1) = false := by rfl) :
    FE X W (.Call (.Name x p) [e, .Name tn p2] [] pos) (isi T f) := by
  have P1 : PE X (.Name tn p2) (tC (.ty T)) := pe_bltn hg2 hm2 hv2 rfl hn2 hdb2
  refine ⟨PE.weak (pe_callB call_isi hg hm hv (pa_cons ha.run (pa_cons P1 pa_nil he2) he1) (by rw [hx]; decide) (by rw [hx]; decide) he1 hpl) fun σ H Q ⟨F, ad, env, S, re, rs, h⟩ => ?_⟩
  refine ⟨F, ad, env, S, re, rs, Fin.seq re h fun F1 ad1 S1 d v H1 n1 re1 rs1 dp1 h1 => ?_⟩
  obtain ⟨a, S2, e1, h1⟩ := Fin.look h1 fun _ _ => tyM_ex
  have hin := tyM_in e1
  obtain ⟨rfl, ty⟩ := tyM_at rs1 dp1 e1
  exact ⟨v, .ty T, .type a, .type T, isT a T, rfl, .ty T, ty, kit_ty (kit_all a hin T hT), Fin.pure rs1 h1 rfl⟩

/-! ### len, all, any -/
def lenD : List D → M D
  | [.str x] => if x.length ≤ sizeLine then pur (.int x.length) else mno
  | [.obj n] => fun S => match S[n]? with
    | some (some (.lst xs)) => .ok (.int xs.length) S
    | some (some (.dct xs)) => .ok (.int xs.length) S
    | _ => .no
  | [.lst xs] => pur (.int xs.length)
  | [.tup xs] => pur (.int xs.length)
  | [.scr xs] => pur (.int xs.length)
  | _ => mno
theorem DPk.length {K F ad L} : ∀ {ds : List (Key × D)} {vs : List (Key × V)}, DPk K F ad L ds vs → ds.length = vs.length
  | [], _, h => by cases h; rfl
  | (k, d) :: ds, _, ⟨v, r, e, _, h⟩ => by cases e; simp [DPk.length h]
theorem DPs.one_inv {K F ad L} {d : D} {vs : List V} (h : DPs K F ad L [d] vs) : ∃ v, vs = [v] ∧ DP K F ad L d v := by
  obtain ⟨v, r, e, h1, h2⟩ := h
  cases h2
  exact ⟨v, e, h1⟩
theorem cf_len : CallF X (.builtin "len") lenD := by
  refine ⟨_, call_len_seq.or (call_len_str.or call_lenD), fun W σ F ad S H ds vs Q rs dp h => ?_⟩
  unfold lenD at h
  split at h
  · obtain ⟨v, rfl, d1⟩ := dp.one_inv
    split at h
    · rename_i c
      cases d1
      exact .inr (.inl ⟨_, rfl, c, Fin.pure rs h rfl⟩)
    · exact h.elim
  · obtain ⟨v, rfl, hn, rfl⟩ := dp.one_inv
    split at h
    · rename_i xs q
      obtain ⟨h1, o, h2, vs, h3, h4⟩ := rs.liv _ _ q
      subst h3
      exact .inl ⟨_, vs, rfl, .inl (SqL.of h2), by rw [← h4.length]; exact Fin.pure rs h rfl⟩
    · rename_i xs q
      obtain ⟨h1, o, h2, vs, h3, h4⟩ := rs.liv _ _ q
      subst h3
      exact .inr (.inr ⟨_, vs, rfl, h2, by rw [← h4.length]; exact Fin.pure rs h rfl⟩)
    · exact h.elim
  · obtain ⟨v, rfl, a, us, rfl, h1, h2⟩ := dp.one_inv
    exact .inl ⟨a, us, rfl, .inl (SqL.of (rs.sub _ _ h1)), by rw [← h2.length]; exact Fin.pure rs h rfl⟩
  · obtain ⟨v, rfl, a, us, rfl, h1, h2⟩ := dp.one_inv
    exact .inl ⟨a, us, rfl, .inr (sqT_mono rs.sub h1.sq), by rw [← h2.length]; exact Fin.pure rs h rfl⟩
  · obtain ⟨v, rfl, a, rfl, h1⟩ := dp.one_inv
    exact .inl ⟨a, _, rfl, .inl (sqL_mono rs.sub h1), by rw [List.length_map]; exact Fin.pure rs h rfl⟩
  · exact h.elim
def blsOf : List D → Option (List Bool)
  | [] => some []
  | .bl b :: ds => match blsOf ds with
    | some bs => some (b :: bs)
    | none => none
  | _ => none
theorem blsOf_at {K F ad L} : ∀ {ds : List D} {vs : List V} {bs : List Bool}, DPs K F ad L ds vs → blsOf ds = some bs → vs = bs.map V.bl
  | [], _, _, h, e => by cases h; cases e; rfl
  | d :: ds, _, _, ⟨v, r, e1, h1, h2⟩, e => by
    cases d <;> simp only [blsOf] at e <;> first
      | (cases e; done)
      | skip
    split at e
    · rename_i bs q
      cases e
      cases h1
      rw [e1, blsOf_at h2 q]
      rfl
    · cases e
def allD : List D → M D
  | [d] => bd (seqL d) fun xs => bd (opt (blsOf xs)) fun bs => pur (.bl (bs.all id))
  | _ => mno
def anyD : List D → M D
  | [d] => bd (seqL d) fun xs => bd (opt (blsOf xs)) fun bs => pur (.bl (bs.any id))
  | _ => mno
theorem cf_all (hc : X.calm = true) : CallF X (.builtin "all") allD := by
  refine ⟨_, cr_all hc, fun W σ F ad S H ds vs Q rs dp h => ?_⟩
  unfold allD at h
  split at h
  · obtain ⟨v, rfl, d1⟩ := dp.one_inv
    obtain ⟨xs, S1, e1, h⟩ := Fin.look h fun _ _ => seqL_ex
    obtain ⟨rfl, a, us, rfl, h1, h2⟩ := seqL_at rs d1 e1
    obtain ⟨bs, S2, e2, h⟩ := Fin.look h fun _ _ => opt_ex
    obtain ⟨rfl, e3⟩ := opt_ok e2
    have := blsOf_at h2 e3
    subst this
    exact ⟨a, bs, rfl, h1, Fin.pure rs h rfl⟩
  · exact h.elim
theorem cf_any (hc : X.calm = true) : CallF X (.builtin "any") anyD := by
  refine ⟨_, cr_any hc, fun W σ F ad S H ds vs Q rs dp h => ?_⟩
  unfold anyD at h
  split at h
  · obtain ⟨v, rfl, d1⟩ := dp.one_inv
    obtain ⟨xs, S1, e1, h⟩ := Fin.look h fun _ _ => seqL_ex
    obtain ⟨rfl, a, us, rfl, h1, h2⟩ := seqL_at rs d1 e1
    obtain ⟨bs, S2, e2, h⟩ := Fin.look h fun _ _ => opt_ex
    obtain ⟨rfl, e3⟩ := opt_ok e2
    have := blsOf_at h2 e3
    subst this
    exact ⟨a, bs, rfl, h1, Fin.pure rs h rfl⟩
  · exact h.elim
/-! ### int, str, ord, list, tuple -/
def intD : List D → M D
  | [.int i] => pur (.int i)
  | [.bl b] => pur (.int (if b then 1 else 0))
  | _ => mno
theorem cf_int : CallF X (.type "int") intD := by
  refine ⟨_, call_int1, fun W σ F ad S H ds vs Q rs dp h => ?_⟩
  unfold intD at h
  split at h
  · obtain ⟨v, rfl, d1⟩ := dp.one_inv
    cases d1
    exact .inl ⟨_, rfl, Fin.pure rs h rfl⟩
  · obtain ⟨v, rfl, d1⟩ := dp.one_inv
    cases d1
    exact .inr ⟨_, rfl, Fin.pure rs h rfl⟩
  · exact h.elim
theorem call_str_bool : CallR X (.type "str") (fun xs H Q => ∃ b, xs = [.bl b] ∧ Q (.str (if b then "True" else "False")) H) := by
  intro pins s σ H xs us Q I r h
  obtain ⟨b, rfl, q⟩ := h
  obtain ⟨u, rfl, ru⟩ := vals1 r
  cases ru
  exact PySem.P.str_of_bool ⟨.str (if b then "True" else "False"), H, I.tok _, ⟨_, rfl⟩, q⟩
def strD : List D → M D
  | [.int i] => if i.natAbs.log2 < 1920 then pur (.str (toString i)) else mno
  | [.bl b] => pur (.str (if b then "True" else "False"))
  | _ => mno
theorem cf_str : CallF X (.type "str") strD := by
  refine ⟨_, call_str_int.or call_str_bool, fun W σ F ad S H ds vs Q rs dp h => ?_⟩
  unfold strD at h
  split at h
  · obtain ⟨v, rfl, d1⟩ := dp.one_inv
    cases d1
    split at h
    · rename_i c
      exact .inl ⟨_, rfl, c, Fin.pure rs h rfl⟩
    · exact h.elim
  · obtain ⟨v, rfl, d1⟩ := dp.one_inv
    cases d1
    exact .inr ⟨_, rfl, Fin.pure rs h rfl⟩
  · exact h.elim
def ordD : List D → M D
  | [.str x] => if x.length = 1 then pur (.int (x.cps.getD 0 0 : Nat)) else mno
  | _ => mno
theorem cf_ord : CallF X (.builtin "ord") ordD := by
  refine ⟨_, call_ord, fun W σ F ad S H ds vs Q rs dp h => ?_⟩
  unfold ordD at h
  split at h
  · obtain ⟨v, rfl, d1⟩ := dp.one_inv
    cases d1
    split at h
    · rename_i c
      exact ⟨_, rfl, c, Fin.pure rs h rfl⟩
    · exact h.elim
  · exact h.elim
def listD (mk : List D → M D) : List D → M D
  | [d] => bd (seqLT d) mk
  | _ => mno
theorem cf_list {mk : List D → M D} (hm : MkOk X mk) : CallF X (.type "list") (listD mk) := by
  refine ⟨_, call_list_of, fun W σ F ad S H ds vs Q rs dp h => ?_⟩
  unfold listD at h
  split at h
  · obtain ⟨v, rfl, d1⟩ := dp.one_inv
    obtain ⟨xs, S1, e1, h⟩ := Fin.look h fun _ _ => seqLT_ex
    obtain ⟨rfl, a, us, rfl, h1, h2⟩ := seqLT_at rs d1 e1
    exact ⟨a, us, rfl, h1, (hm W σ F ad _ H Q _ _ rs h2 h).2⟩
  · exact h.elim
def tupleD : List D → M D
  | [.tup xs] => pur (.tup xs)
  | [d] => bd (seqL d) mkT
  | _ => mno
theorem call_tuple_ofC : CallR X (.type "tuple") (fun xs H Q => ∃ p ys, xs = [.ref p] ∧ ((SqL X.K H p ys ∧ ∀ (l : Addr) (o : Obj), H l = none → o.dict = none → Q (.ref l) (upd H l (.frz o (.tup ys)))) ∨ (SqT X.K H p ys ∧ Q (.ref p) H))) := by
  intro pins s σ H xs us Q I r h
  obtain ⟨p, ys, rfl, h⟩ := h
  rcases h with ⟨hq, q⟩ | ⟨hq, q⟩
  · obtain ⟨u, rfl, rx⟩ := vals1 r
    cases rx
    obtain ⟨its, r', pl, hz⟩ := I.list hq
    have hlen := r'.length
    refine call_tuple_list pl.isList (fun h' kp => ?_) (by simp only [List.size_toArray] <;> omega)
    have I1 : Inv X pins σ H { s with heap := h' } := I.kept (t' := s.toks) kp
    have I2 : Inv X pins σ (upd H h'.objs.size (.frz { cls := .type "tuple", data := .seq its.toArray } (.tup ys))) { s with heap := h'.push { cls := .type "tuple", data := .seq its.toArray } } :=
      I1.laid (t' := s.toks) (fun b o e => Heap.get?_push_of_some _ e) (Nat.le_refl _) (show ObjOk X.prog X.w _ _ _ (.frz _ (.tup ys)) from ⟨Heap.get?_push_size _ rfl, hz, its, r', IsTup.new _ _⟩)
    exact ⟨.ref h'.objs.size, _, I2, rfl, q _ _ (I1.hok.fresh (Nat.le_refl _)) rfl⟩
  · exact call_tuple_of pins s σ H _ us Q I r ⟨p, ys, rfl, .inr ⟨hq, q⟩⟩
theorem cf_tuple : CallF X (.type "tuple") tupleD := by
  refine ⟨_, call_tuple_ofC, fun W σ F ad S H ds vs Q rs dp h => ?_⟩
  unfold tupleD at h
  split at h
  · obtain ⟨v, rfl, a, us, rfl, h1, h2⟩ := dp.one_inv
    exact ⟨a, us, rfl, .inr ⟨sqT_mono rs.sub h1.sq, Fin.pure rs h ⟨a, us, rfl, h1, h2⟩⟩⟩
  · obtain ⟨v, rfl, d1⟩ := dp.one_inv
    obtain ⟨xs, S1, e1, h⟩ := Fin.look h fun _ _ => seqL_ex
    obtain ⟨rfl, a, us, rfl, h1, h2⟩ := seqL_at rs d1 e1
    exact ⟨a, us, rfl, .inl ⟨h1, (fin_mkT rs h2 h).2⟩⟩
  · exact h.elim
end
end Fx

end
/-! ## Fx6 -/
section
namespace Fx
open PySem PySem.Spec PyProof.Rows L2
variable [tb : Tabl]

/-! ### items -/
theorem DPs.atI {K F ad L} {ds : List D} {vs : List V} {i : Int} {d : D} (h : DPs K F ad L ds vs) (e : L2.atI ds i = some d) : ∃ v, L2.atI vs i = some v ∧ DP K F ad L d v := by
  unfold L2.atI at e ⊢
  rw [← h.length]
  cases q : ixN ds.length i with
  | none => rw [q] at e; cases e
  | some j =>
    rw [q] at e
    obtain ⟨v, h1, h2⟩ := h.at e
    exact ⟨v, h1, h2⟩
def IxF (X : Cx) (g : D → D → M D) : Prop := ∃ r, IxR X r ∧ ∀ (W : WX) (σ : L2.St) F ad S H x y v w (Q : VK), RS X.K F ad S H → DP X.K F ad S.length x v → DP X.K F ad S.length y w → Fin X W (DP X.K) σ F ad S H (g x y S) Q → r v w H Q
def ixD (x y : D) : M D := match y with
  | .int i => match x with
    | .str z => if z.length ≤ sizeLine then bd (opt (atI z.cps.toList i)) fun c => pur (.str ⟨#[c]⟩) else mno
    | x => bd (seqLT x) fun ds => opt (atI ds i)
  | _ => mno
section
variable {X : Cx} {W : WX} {pos p : Pos} {e a b : Expr} {es : List Expr} {f f1 f2 : Env → M D} {t : Env → M (List D)}
theorem ix_core {σ : L2.St} {F ad S H} {x : D} {i : Int} {v w : V} {Q : VK} (rs : RS X.K F ad S H) (dx : DP X.K F ad S.length x v) (dy : DP X.K F ad S.length (.int i) w)
    (h : Fin X W (DP X.K) σ F ad S H ((bd (seqLT x) fun ds => opt (atI ds i)) S) Q) : rIxL X.K v w H Q ∨ rIxT X.K v w H Q := by
  obtain ⟨ds, S1, e1, h⟩ := Fin.look h fun _ _ => seqLT_ex
  obtain ⟨rfl, a, us, rfl, h1, h2⟩ := seqLT_at rs dx e1
  cases q : atI ds i with
  | none => rw [q] at h; exact h.elim
  | some d =>
    rw [q] at h
    obtain ⟨u, e2, d2⟩ := h2.atI q
    cases dy
    rcases h1 with h1 | h1
    · exact .inl ⟨a, us, i, u, rfl, rfl, h1, e2, Fin.pure rs h d2⟩
    · exact .inr ⟨a, us, i, u, rfl, rfl, h1, e2, Fin.pure rs h d2⟩
theorem if_ix : IxF X ixD := by
  refine ⟨_, ix_list.or (ix_tup.or ix_str), fun W σ F ad S H x y v w Q rs dx dy h => ?_⟩
  cases y with
  | int i =>
    cases x with
    | str z =>
      have h : Fin X W (DP X.K) σ F ad S H ((if z.length ≤ sizeLine then bd (opt (atI z.cps.toList i)) fun c => pur (.str ⟨#[c]⟩) else mno : M D) S) Q := h
      split at h
      · rename_i c
        obtain ⟨u, S1, e1, h⟩ := Fin.look h fun _ _ => opt_ex
        obtain ⟨rfl, e2⟩ := opt_ok e1
        cases dx; cases dy
        exact .inr (.inr ⟨z, i, u, rfl, rfl, c, e2, Fin.pure rs h rfl⟩)
      · exact h.elim
    | _ =>
      simp only [ixD] at h
      rcases ix_core rs dx dy h with q | q
      · exact .inl q
      · exact .inr (.inl q)
  | _ => exact h.elim
theorem fe_ix (ha : FE X W a f1) (hb : FE X W b f2) (hs : PlainIx b) : FE X W (.Subscript a b pos) (bin ixD f1 f2) := by
  obtain ⟨r, hr, hg⟩ := if_ix (X := X)
  exact ⟨PE.weak (pe_ix hr ha.run hb.run hs) fun σ H Q h => seq2 hg h⟩

/-! ### slices -/
structure FO (X : Cx) (W : WX) (e : Option Expr) (f : Env → M (Option Int)) : Prop where
  run : PO X e (tX X W (fun _ _ _ d v => d = v) f)
theorem fo_none : FO X W none (fun _ => pur none) := by
  refine ⟨⟨fun pins s σ H Q I h => po_none.run pins s σ H Q I ?_⟩⟩
  obtain ⟨F, ad, env, S, re, rs, h⟩ := h
  exact Fin.pure (d := none) rs h rfl
def intOf : D → M (Option Int)
  | .int i => pur (some i)
  | _ => mno
theorem fo_some (h : FE X W e f) : FO X W (some e) (fun env => bd (f env) intOf) := by
  refine ⟨⟨fun pins s σ H Q I h1 => (po_some h.run).run pins s σ H Q I ?_⟩⟩
  obtain ⟨F, ad, env, S, re, rs, h1⟩ := h1
  refine ⟨F, ad, env, S, re, rs, Fin.seq re h1 fun F1 ad1 S1 d v H1 n1 re1 rs1 dp1 h2 => ?_⟩
  cases d <;> first
    | exact h2.elim
    | exact ⟨_, dp1, Fin.pure rs1 h2 rfl⟩
def cutD (xs : List D) (lo hi : Option Int) : List D := (xs.drop (HT.sIx xs.length 0 lo)).take (HT.sIx xs.length xs.length hi - HT.sIx xs.length 0 lo)
def slD (x : D) (lo hi : Option Int) : M D := match x with
  | .str z => if z.length ≤ sizeLine then pur (.str (cutS z lo hi)) else mno
  | .tup xs => if xs.length ≤ sizeLine then pur (.tup (cutD xs lo hi)) else mno
  | x => bd (seqL x) fun xs => if xs.length ≤ sizeLine then pur (.lst (cutD xs lo hi)) else mno
theorem DPs.cut {K F ad L} {ds : List D} {vs : List V} (h : DPs K F ad L ds vs) (lo hi : Option Int) : DPs K F ad L (cutD ds lo hi) (cutV vs lo hi) := by
  unfold cutD cutV
  rw [← h.length]
  exact (h.drop _).take _
/-- t[lo:hi]: a tuple without a dict -/
def rSlC (K : PySem.W.Frag) : V → Option Int → Option Int → Hp → VK → Prop := fun x lo hi H Q => ∃ a xs, x = .ref a ∧ SqT K H a xs ∧
  (HT.sIx xs.length 0 lo = 0 ∧ HT.sIx xs.length xs.length hi = xs.length → Q (.ref a) H) ∧ (¬ (HT.sIx xs.length 0 lo = 0 ∧ HT.sIx xs.length xs.length hi = xs.length) → ∀ (p : Addr) (o : Obj), H p = none → o.dict = none → Q (.ref p) (upd H p (.frz o (.tup (cutV xs lo hi)))))
theorem sl_tupC : SlR X (rSlC X.K) := by
  intro pins s σ H x v vl vu lo hi sl Q I rx hs pl pu h
  obtain ⟨a, xs, rfl, hx, q1, q2⟩ := h
  by_cases hw : HT.sIx xs.length 0 lo = 0 ∧ HT.sIx xs.length xs.length hi = xs.length
  · exact sl_tupA pins s σ H _ v vl vu lo hi sl Q I rx hs pl pu ⟨a, xs, rfl, hx, q1, fun z => absurd hw z⟩
  · cases rx
    obtain ⟨its, r, ht, hz⟩ := I.tuple hx
    have hlen : its.toArray.size = xs.length := by rw [List.size_toArray]; exact r.length.symm
    refine ⟨"tuple", _, PyProof.Rows.slot_tuple_getitem.lookup, ht.typeIs, ?_⟩
    refine HT.getItem_tuple_cut ht hs pl pu (by rw [hlen]; exact hw) ?_ (by rw [hlen]; exact hz)
    rw [hlen]
    refine ⟨.ref s.heap.objs.size, _, I.laid (t' := s.toks) (o := .frz _ (.tup (cutV xs lo hi))) (fun b ob q => Heap.get?_push_of_some _ q) (Nat.le_refl _) ⟨Heap.get?_push_size _ rfl, ?_⟩, rfl, q2 hw _ _ (I.hok.fresh (Nat.le_refl _)) rfl⟩
    exact ⟨Nat.le_trans (cutV_length xs lo hi) hz, _, (r.drop (HT.sIx xs.length 0 lo)).take (HT.sIx xs.length xs.length hi - HT.sIx xs.length 0 lo), IsTup.new _ _⟩
def slc (f : Env → M D) (l h : Env → M (Option Int)) : Env → M D := fun env => bd (f env) fun x => bd (l env) fun lo => bd (h env) fun hi => slD x lo hi
theorem fe_slice {lo hi : Option Expr} {p2 : Pos} {l h : Env → M (Option Int)} (he : FE X W e f) (hl : FO X W lo l) (hh : FO X W hi h) : FE X W (.Subscript e (.Slice lo hi none p2) pos) (slc f l h) := by
  refine ⟨PE.weak (pe_slice (sl_tupC.or (sl_list.or sl_str)) he.run hl.run hh.run) fun σ H Q ⟨F, ad, env, S, re, rs, hq⟩ => ?_⟩
  refine ⟨F, ad, env, S, re, rs, Fin.seq re hq fun F1 ad1 S1 x v H1 n1 re1 rs1 dp1 h1 => ?_⟩
  refine ⟨F1, ad1, env, S1, re1, rs1, Fin.seq re1 h1 fun F2 ad2 S2 i j H2 n2 re2 rs2 e2 h2 => ?_⟩
  refine ⟨F2, ad2, env, S2, re2, rs2, Fin.seq re2 h2 fun F3 ad3 S3 k m H3 n3 re3 rs3 e3 h3 => ?_⟩
  subst e2 e3
  have dp := DP.mono (n2.trans n3).gr x v dp1
  cases x with
  | str z =>
    have h3 : Fin X W (DP X.K) σ F3 ad3 S3 H3 ((if z.length ≤ sizeLine then pur (.str (cutS z i k)) else mno : M D) S3) Q := h3
    split at h3
    · rename_i c
      cases dp
      exact .inr (.inr ⟨z, rfl, c, Fin.pure rs3 h3 rfl⟩)
    · exact h3.elim
  | tup xs =>
    have h3 : Fin X W (DP X.K) σ F3 ad3 S3 H3 ((if xs.length ≤ sizeLine then pur (.tup (cutD xs i k)) else mno : M D) S3) Q := h3
    split at h3
    · rename_i c
      obtain ⟨a, us, rfl, q1, q2⟩ := dp
      refine .inl ⟨a, us, rfl, sqT_mono rs3.sub q1.sq, fun hw => ?_, fun _ p o hp ho => ?_⟩
      · refine Fin.pure rs3 h3 ⟨a, us, rfl, q1, ?_⟩
        have : cutV us i k = us := by
          unfold cutV
          rw [hw.1, hw.2]
          simp
        rw [← this]
        exact q2.cut i k
      · exact h3 (.ref p) _ ad3 _ (Nx.alloc rs3 hp) (rs3.alloc hp) ⟨p, _, rfl, .inl ⟨o, upd_same, ho⟩, DPs.mono (Gr.alloc (F_none rs3 hp)) _ _ (q2.cut i k)⟩
    · exact h3.elim
  | _ =>
    simp only [slD] at h3
    obtain ⟨ds, S4, e4, h3⟩ := Fin.look h3 fun _ _ => seqL_ex
    obtain ⟨rfl, a, us, rfl, q1, q2⟩ := seqL_at rs3 dp e4
    split at h3
    · refine .inr (.inl ⟨a, us, rfl, q1, fun p hp => ?_⟩)
      exact h3 (.ref p) _ ad3 _ (Nx.alloc rs3 hp) (rs3.alloc hp) ⟨p, _, rfl, upd_same, DPs.mono (Gr.alloc (F_none rs3 hp)) _ _ (q2.cut i k)⟩
    · exact h3.elim
/-! ### slices with a step -/
def pickN (n : Nat) (lo hi st : Option Int) : List Nat := sliceRange (sliceBounds lo hi st n).1 (sliceBounds lo hi st n).2.1 (sliceBounds lo hi st n).2.2
def pickD {α : Type} (xs : List α) (lo hi st : Option Int) : List α := (pickN xs.length lo hi st).filterMap (xs[·]?)
theorem DPs.fm {K F ad L} {ds : List D} {vs : List V} (h : DPs K F ad L ds vs) : ∀ ix : List Nat, DPs K F ad L (ix.filterMap (ds[·]?)) (ix.filterMap (vs[·]?))
  | [] => rfl
  | i :: ix => by
    rw [List.filterMap_cons, List.filterMap_cons]
    cases q : ds[i]? with
    | none =>
      have : vs[i]? = none := by
        rw [List.getElem?_eq_none_iff] at q ⊢
        rw [← h.length]; exact q
      rw [this]
      exact DPs.fm h ix
    | some d =>
      obtain ⟨v, e1, e2⟩ := h.at q
      rw [e1]
      exact ⟨v, _, rfl, e2, DPs.fm h ix⟩
theorem vals_fm {vs : List V} {us : List Value} (h : Vals vs us) : ∀ ix : List Nat, Vals (ix.filterMap (vs[·]?)) (ix.filterMap (us[·]?))
  | [] => .nil
  | i :: ix => by
    rw [List.filterMap_cons, List.filterMap_cons]
    cases q : vs[i]? with
    | none =>
      rw [h.none_of q]
      exact vals_fm h ix
    | some v =>
      obtain ⟨u, e1, e2⟩ := h.get q
      rw [e1]
      exact .cons e2 (vals_fm h ix)
def tStp (K : PySem.W.Frag) (te : TE) (tl th ts : TO) : TE := fun σ H Q => te σ H fun x H1 => tl σ H1 fun l H2 => th σ H2 fun u H3 => ts σ H3 fun st H4 =>
  ∃ a xs, x = .ref a ∧ SqL K H4 a xs ∧ st ≠ some 0 ∧ ∀ p, H4 p = none → Q (.ref p) (upd H4 p (.lst (pickD xs l u st)))
theorem pe_stp {lo hi : Option Expr} {st : Expr} {te : TE} {tl th ts : TO} {p2 : Pos} (he : PE X e te) (hl : PO X lo tl) (hh : PO X hi th) (hs : PO X (some st) ts)
    (hop : ∀ o i, subscripted (.Slice lo hi (some st) p2) false o i = operate [o, i] (getItem o i) := by intro _ _; with_unfolding_all rfl) : PE X (.Subscript e (.Slice lo hi (some st) p2) pos) (tStp X.K te tl th ts) := by
  refine ⟨fun pins s σ H Q I h => Subscript_ (thn (he.run pins s σ H _ I h) fun v s1 ⟨x, H1, I1, r1, q1⟩ => wpAny_Slice (thn (hl.run pins s1 σ H1 _ I1 q1) fun vl s2 ⟨l, H2, I2, pl, q2⟩ =>
    thn (hh.run pins s2 σ H2 _ I2 q2) fun vu s3 ⟨u, H3, I3, pu, q3⟩ => thn (hs.run pins s3 σ H3 _ I3 q3) fun vs s4 ⟨o, H4, I4, ps, q4⟩ => ?_))⟩
  obtain ⟨a, xs, rfl, hx, h0, q⟩ := q4
  cases r1
  have I5 : Inv X pins σ H4 { s4 with heap := s4.heap.push { cls := .type "slice", data := .fields #[vl, vu, vs] } } :=
    I4.kept (t' := s4.toks) (h' := s4.heap.push { cls := .type "slice", data := .fields #[vl, vu, vs] }) fun _ _ z => Heap.get?_push_of_some _ z
  obtain ⟨its, r, ht, hz⟩ := I5.list hx
  show wpAny _ _ (subscriptTail e (.Slice lo hi (some st) p2) (.ref a) (.ref s4.heap.objs.size)) _ _ _
  refine tail_any (ops := [.ref a, .ref s4.heap.objs.size]) ht.isList.typeIs PySem.slot_list_getitem.lookup ?_ (hop _ _)
  have hlen := r.length
  refine wpAny_getItem_list_slice ht.isList (Heap.IsSliceOf.new _ _ _ _) pl pu ps h0 ?_ (by rw [List.size_toArray]; omega)
  have hpick : Vals (pickD xs l u o) (pickD its l u o) := by
    unfold pickD
    rw [← hlen]
    exact vals_fm r _
  have e0 : slicePick its.toArray l u o = (pickD its l u o).toArray := by
    unfold slicePick pickD pickN
    have e1 : (fun i : Nat => its.toArray[i]?) = fun i : Nat => its[i]? := by
      funext i
      simp
    rw [List.size_toArray, e1]
  have hle : (pickD xs l u o).length ≤ sizeLine := by
    have h1 := slicePick_size_le its.toArray l u o
    rw [e0, List.size_toArray, List.size_toArray, ← hpick.length, ← hlen] at h1
    omega
  rw [e0]
  refine ⟨.ref _, _, I5.laid (t' := s4.toks) (o := .lst (pickD xs l u o)) (fun _ _ z => Heap.get?_push_of_some _ z) (Nat.le_refl _) ⟨hle, _, 0, hpick, Heap.get?_push_size _ rfl⟩, rfl, q _ (I5.hok.fresh (Nat.le_refl _))⟩
def stpD (x : D) (lo hi st : Option Int) : M D := if st ≠ some 0 then bd (seqL x) fun xs => pur (.lst (pickD xs lo hi st)) else mno
def stp (f : Env → M D) (l h s : Env → M (Option Int)) : Env → M D := fun env => bd (f env) fun x => bd (l env) fun lo => bd (h env) fun hi => bd (s env) fun st => stpD x lo hi st
theorem fe_stp {lo hi : Option Expr} {st : Expr} {p2 : Pos} {l h s : Env → M (Option Int)} (he : FE X W e f) (hl : FO X W lo l) (hh : FO X W hi h) (hst : FO X W (some st) s)
    (hop : ∀ o i, subscripted (.Slice lo hi (some st) p2) false o i = operate [o, i] (getItem o i) := by intro _ _; with_unfolding_all rfl) : FE X W (.Subscript e (.Slice lo hi (some st) p2) pos) (stp f l h s) := by
  refine ⟨PE.weak (pe_stp he.run hl.run hh.run hst.run hop) fun σ H Q ⟨F, ad, env, S, re, rs, hq⟩ => ?_⟩
  refine ⟨F, ad, env, S, re, rs, Fin.seq re hq fun F1 ad1 S1 x v H1 n1 re1 rs1 dp1 h1 => ?_⟩
  refine ⟨F1, ad1, env, S1, re1, rs1, Fin.seq re1 h1 fun F2 ad2 S2 i j H2 n2 re2 rs2 e2 h2 => ?_⟩
  refine ⟨F2, ad2, env, S2, re2, rs2, Fin.seq re2 h2 fun F3 ad3 S3 k m H3 n3 re3 rs3 e3 h3 => ?_⟩
  refine ⟨F3, ad3, env, S3, re3, rs3, Fin.seq re3 h3 fun F4 ad4 S4 o q H4 n4 re4 rs4 e4 h4 => ?_⟩
  subst e2 e3 e4
  have dp := DP.mono (n2.trans (n3.trans n4)).gr x v dp1
  unfold stpD at h4
  split at h4
  case isFalse => exact h4.elim
  rename_i c
  obtain ⟨ds, S5, e5, h4⟩ := Fin.look h4 fun _ _ => seqL_ex
  obtain ⟨rfl, a, us, rfl, q1, q2⟩ := seqL_at rs4 dp e5
  refine ⟨a, us, rfl, q1, c, fun p hp => ?_⟩
  refine h4 (.ref p) _ ad4 _ (Nx.alloc rs4 hp) (rs4.alloc hp) ⟨p, _, rfl, upd_same, DPs.mono (Gr.alloc (F_none rs4 hp)) _ _ ?_⟩
  unfold pickD
  rw [← q2.length]
  exact q2.fm _

/-! ### a tuple turned round -/
theorem revIdx (its : List Value) : (List.range its.length).filterMap (fun m : Nat => its.toArray[(((its.length : Int) - 1) + (m : Int) * (-1)).toNat]?) = its.reverse := by
  have h := PySem.W.krv_all its.reverse.toArray
  rw [List.size_toArray, List.length_reverse] at h
  rw [show (its.reverse.toArray).toList = its.reverse from rfl] at h
  rw [← h]
  have : ∀ l : List Nat, (∀ m ∈ l, m < its.length) → l.filterMap (fun m : Nat => its.toArray[(((its.length : Int) - 1) + (m : Int) * (-1)).toNat]?) = l.filterMap (fun m => its.reverse.toArray[m]?) := by
    intro l hl
    induction l with
    | nil => rfl
    | cons m l ih =>
      have hm := hl m List.mem_cons_self
      have e : its.toArray[(((its.length : Int) - 1) + (m : Int) * (-1)).toNat]? = its.reverse.toArray[m]? := by
        have : (((its.length : Int) - 1) + (m : Int) * (-1)).toNat = its.length - 1 - m := by omega
        rw [this]
        simp only [List.getElem?_toArray]
        rw [List.getElem?_reverse hm]
      rw [List.filterMap_cons, List.filterMap_cons, e, ih fun k hk => hl k (List.mem_cons_of_mem _ hk)]
  exact this _ fun m hm => List.mem_range.mp hm
theorem rev_item {prog : Program} {w : World} {A : Around} {E : Value → Shared → Prop} {s : Shared} {tp sl : Addr} {its : List Value} {u : Tok} {Q : Value → Shared → Prop} (ht : IsTup s.heap tp its.toArray) (hs : s.heap.IsSliceOf sl .none .none (.int (-1) u)) (hz : its.length ≤ sizeLine)
    (h : Q (.ref s.heap.objs.size) { s with heap := s.heap.push { cls := .type "tuple", data := .seq its.reverse.toArray } }) : wpAny (model prog w) A (getItem (.ref tp) (.ref sl)) Q E s := by
  obtain ⟨so, hso, hsc, hsd⟩ := id hs
  have hT : s.TypeIs (.ref sl) "slice" := ⟨so, hso, hsc⟩
  have room : sizeOk (.seq its.reverse.toArray) := by
    show its.reverse.toArray.size ≤ sizeLine
    rw [List.size_toArray, List.length_reverse]; exact hz
  unfold getItem
  try with_reducible refine wpAny_holding ?_
  first | refine wpAny_bind (wpAny_pure ?_) | skip
  refine wpAny_bind (wpAny_sequenceKey ht.typeIs (by decide) (wpAny_bind (wpAny_callSpecial?_slot (name := Str.ofString "__getitem__") ht.typeIs PyProof.Rows.slot_tuple_getitem
    (wpAny_call_entry PyProof.Rows.slot_tuple_getitem ht.typeIs entry_tuple_getitem ?_ (args_tuple_getitem _ _)))))
  show wpAny _ _ (Builtin.Tuple.tupleItemsOf (.ref tp) >>= _) _ _ s
  refine wpAny_bind (tupleItemsOf_ ht (wpAny_bind (wpAny_typeOf hT ?_)))
  rw [if_pos (by decide)]
  have app : ∀ {A' : Around} {R : Int × Int × Nat → Shared → Prop} {E' : Value → Shared → Prop}, R ((its.length : Int) - 1, -1, its.length) s → wpAny (model prog w) A' (Builtin.Slice.sliceApplied (.ref sl) (pure (its.toArray.size : Int))) R E' s := by
    intro A' R E' r
    unfold Builtin.Slice.sliceApplied Builtin.Slice.sliceFields
    refine wpAny_bind (wpAny_bind (wpAny_field hso hsd (x := .none) rfl (wpAny_bind (wpAny_field hso hsd (x := .none) rfl (wpAny_bind (wpAny_field hso hsd (x := .int (-1) u) rfl (wpAny_pure ?_)))))))
    refine wpAny_bind (slicePart_int ?_)
    show wpAny _ _ (if ((-1 : Int) == 0) = true then _ else _) _ _ s
    rw [if_neg (by decide)]
    refine wpAny_bind (slicePart_none (wpAny_bind (slicePart_none (wpAny_bind (wpAny_pure ?_)))))
    have e1 : Builtin.Slice.sliceAdjust none none (-1) (its.toArray.size : Int) = ((its.length : Int) - 1, -1) := by
      unfold Builtin.Slice.sliceAdjust
      simp
    have e2 : Builtin.Slice.slicePlaces ((its.length : Int) - 1) (-1) (-1) = its.length := by
      unfold Builtin.Slice.slicePlaces
      simp only [show ¬ ((-1 : Int) > 0) by decide, if_false]
      by_cases h0 : its.length = 0
      · rw [h0]; decide
      · rw [if_pos (by omega)]
        show (((its.length : Int) - 1 - -1 - 1) / (- -1) + 1).toNat = _
        rw [show (- -1 : Int) = 1 by decide, Int.ediv_one]
        omega
    show wpAny _ _ (match Builtin.Slice.sliceAdjust none none (-1) (its.toArray.size : Int) with | (lo, hi) => pure (lo, (-1 : Int), Builtin.Slice.slicePlaces lo hi (-1))) _ _ s
    rw [e1]
    show wpAny _ _ (pure ((its.length : Int) - 1, (-1 : Int), Builtin.Slice.slicePlaces ((its.length : Int) - 1) (-1) (-1))) _ _ s
    rw [e2]
    exact wpAny_pure r
  refine wpAny_bind (app ?_)
  show wpAny _ _ (if (((its.length : Int) - 1 == 0) && ((-1 : Int) == 1) && (its.length == its.toArray.size)) = true then _ else _) _ _ s
  rw [if_neg (by
    rw [show ((-1 : Int) == 1) = false from rfl, Bool.and_false, Bool.false_and]
    exact Bool.false_ne_true), revIdx]
  first
    | exact wpAny_bind (m := Builtin.Tuple.tupleExact _) (wpAny_newObj_type (wpAny_pure ⟨_, rfl, wpAny_pure h⟩) room)
    | exact wpAny_bind (m := Builtin.Tuple.tupleExact _) (wpAny_newObj_type (wpAny_bind (wpAny_pure (wpAny_pure ⟨_, rfl, wpAny_pure h⟩))) room)
    | exact wpAny_bind (wpAny_bind (m := Builtin.Tuple.tupleExact _) (wpAny_newObj_type (wpAny_pure (wpAny_pure ⟨_, rfl, wpAny_pure h⟩)) room))
    | exact wpAny_bind (wpAny_bind (m := Builtin.Tuple.tupleExact _) (wpAny_newObj_type (wpAny_pure ⟨_, rfl, wpAny_pure h⟩) room))
end
end Fx

end
/-! ## Fx7 -/
section
namespace Fx
open PySem PySem.Spec PyProof.Rows L2
variable [tb : Tabl]
theorem Nx.unpriv {F ad S H F' ad' S' H'} {p : Addr} {o : HO} (x : Nx F ad S (upd H p o) F' ad' S' H') (hp : H p = none) : Nx F ad S H F' ad' S' H' := by
  refine ⟨x.fsub, fun a u e => ?_, x.len, x.adk, fun n od e => ?_, fun a u e l t => x.keep a u (by rw [upd_ne (ne_of_none e hp)]; exact e) l t, fun a e => ?_⟩
  · rcases x.fnew a u e with h | h | h
    · exact .inl h
    · by_cases q : a = p
      · subst q; exact .inr (.inl (.inl hp))
      · refine .inr (.inl ?_); unfold Fr at h ⊢; rw [upd_ne q] at h; exact h
    · exact .inr (.inr h)
  · rcases x.snew n od e with h | h
    · exact .inl h
    · by_cases q : ad' n = p
      · rw [q]; exact .inr (.inl hp)
      · refine .inr ?_; unfold Fr at h ⊢; rw [upd_ne q] at h; exact h
  · have h := x.back a e
    by_cases q : a = p
    · subst q; exact .inl hp
    · unfold Fr at h ⊢; rw [upd_ne q] at h; exact h
section
variable {X : Cx} {W : WX} {pos p : Pos} {e a b : Expr} {es : List Expr} {f f1 f2 : Env → M D} {t : Env → M (List D)}

/-! ### t[::-1], t a tuple -/
def revD : D → M D
  | .tup xs => pur (.tup xs.reverse)
  | _ => mno
theorem fe_revT {k : Nat} {p1 p2 p3 : Pos} (he : FE X W e f)
    (hop : ∀ o i, subscripted (.Slice none none (some (.UnaryOp .USub (.Constant (.int 1) k p1) p2)) p3) false o i = operate [o, i] (getItem o i) := by intro _ _; with_unfolding_all rfl) :
    FE X W (.Subscript e (.Slice none none (some (.UnaryOp .USub (.Constant (.int 1) k p1) p2)) p3) pos) (un revD f) := by
  have base : PE X (.Subscript e (.Slice none none (some (.UnaryOp .USub (.Constant (.int 1) k p1) p2)) p3) pos) (fun σ H Q => tF X W f σ H fun x H1 => ∃ a xs, x = .ref a ∧ SqT X.K H1 a xs ∧ ∀ (p : Addr) (o : Obj), H1 p = none → o.dict = none → Q (.ref p) (upd H1 p (.frz o (.tup xs.reverse)))) := by
    refine ⟨fun pins s σ H Q I h => Subscript_ (thn (he.run.run pins s σ H _ I h) fun v s1 ⟨x, H1, I1, r1, q1⟩ => ?_)⟩
    obtain ⟨a, xs, rfl, hx, q⟩ := q1
    cases r1
    have hst : PO X (some (.UnaryOp .USub (.Constant (.int 1) k p1) p2)) (tPart (tUn (rU fun i => .int (-i)) (tC (.int 1)))) := po_some (pe_un un_neg pe_int)
    refine wpAny_Slice ?_
    rw [evalPart_none]
    refine wpAny_pure (wpAny_pure (thn (hst.run pins s1 σ H1 (fun o H4 => o = some (-1) ∧ H4 = H1) I1 ⟨1, rfl, -1, rfl, rfl, rfl⟩) fun vs s4 ⟨o, H4, I4, ps, eo, e4⟩ => ?_))
    subst eo e4
    cases ps with
    | int i u =>
      have I5 : Inv X pins σ H4 { s4 with heap := s4.heap.push { cls := .type "slice", data := .fields #[.none, .none, .int (-1) u] } } :=
        I4.kept (t' := s4.toks) (h' := s4.heap.push { cls := .type "slice", data := .fields #[.none, .none, .int (-1) u] }) fun _ _ z => Heap.get?_push_of_some _ z
      obtain ⟨its, r, ht, hz⟩ := I5.tuple hx
      show wpAny _ _ (subscriptTail e (.Slice none none (some (.UnaryOp .USub (.Constant (.int 1) k p1) p2)) p3) (.ref a) (.ref s4.heap.objs.size)) _ _ _
      refine tail_any (ops := [.ref a, .ref s4.heap.objs.size]) ht.typeIs PyProof.Rows.slot_tuple_getitem.lookup ?_ (hop _ _)
      refine rev_item ht (Heap.IsSliceOf.new _ _ _ _) (by rw [← r.length]; exact hz) ?_
      refine ⟨.ref _, _, I5.laid (t' := s4.toks) (o := .frz _ (.tup xs.reverse)) (fun _ _ z => Heap.get?_push_of_some _ z) (Nat.le_refl _) ⟨Heap.get?_push_size _ rfl, by rw [List.length_reverse]; exact hz, _, r.reverse, ⟨_, Heap.get?_push_size _ rfl, rfl, _, rfl⟩⟩, rfl, q _ _ (I5.hok.fresh (Nat.le_refl _)) rfl⟩
  refine ⟨PE.weak base fun σ H Q ⟨F, ad, env, S, re, rs, h⟩ => ⟨F, ad, env, S, re, rs, Fin.seq re h fun F1 ad1 S1 d v H1 n1 re1 rs1 dp1 h1 => ?_⟩⟩
  cases d <;> first
    | exact h1.elim
    | skip
  obtain ⟨a, us, rfl, q1, q2⟩ := dp1
  refine ⟨a, us, rfl, sqT_mono rs1.sub q1.sq, fun p o hp ho => ?_⟩
  exact h1 (.ref p) _ ad1 _ (Nx.alloc rs1 hp) (rs1.alloc hp) ⟨p, _, rfl, .inl ⟨o, upd_same, ho⟩, DPs.mono (Gr.alloc (F_none rs1 hp)) _ _ q2.reverse⟩

/-! ### methods that change a list of the store -/
def objL (x : D) : M (Nat × List D) := match x with
  | .obj n => fun S => match S[n]? with
    | some (some (.lst xs)) => .ok (n, xs) S
    | _ => .no
  | _ => mno
theorem objL_ex {d : D} {x : Ex} {S S' : Store} (h : objL d S = .ex x S') : False := by
  cases d <;> simp [objL, mno] at h
  split at h <;> cases h
theorem objL_at {F ad S H} {d : D} {v : V} {r : Nat × List D} {S' : Store} (rs : RS X.K F ad S H) (dp : DP X.K F ad S.length d v) (h : objL d S = .ok r S') :
    S' = S ∧ S[r.1]? = some (some (.lst r.2)) ∧ ∃ vs, v = .ref (ad r.1) ∧ H (ad r.1) = some (.lst vs) ∧ DPs X.K F ad S.length r.2 vs := by
  cases d with
  | obj n =>
    obtain ⟨hn, rfl⟩ := dp
    simp only [objL] at h
    split at h
    · rename_i xs q
      cases h
      obtain ⟨h1, o, h2, vs, h3, h4⟩ := rs.liv n _ q
      subst h3
      exact ⟨rfl, q, vs, rfl, h2, h4⟩
    · cases h
  | _ => cases h
/-- the list of the store becomes xs, and out comes d -/
def putL (n : Nat) (xs : List D) (d : D) : M D := fun S => .ok d (S.set n (some (.lst xs)))
def MetF (X : Cx) (id : String) (g : Nat × List D → List D → M D) : Prop := ∃ r, MtR X id r ∧ ∀ (W : WX) (σ : L2.St) F ad S H c ds vs ws (Q : VK), RS X.K F ad S H → S[c.1]? = some (some (.lst c.2)) → H (ad c.1) = some (.lst ws) → DPs X.K F ad S.length c.2 ws →
  DPs X.K F ad S.length ds vs → Fin X W (DP X.K) σ F ad S H (g c ds S) Q → r (.ref (ad c.1)) vs H Q
theorem fin_putL {σ : L2.St} {F ad S H} {n : Nat} {xs ys : List D} {vs : List V} {d : D} {v : V} {Q : VK} (rs : RS X.K F ad S H) (q : S[n]? = some (some (.lst ys))) (dx : DPs X.K F ad S.length xs vs) (dd : DP X.K F ad S.length d v) (h : Fin X W (DP X.K) σ F ad S H (putL n xs d S) Q) :
    Q v (upd H (ad n) (.lst vs)) := h v F ad _ (Nx.put rs q) (rs.put q ⟨vs, rfl, dx⟩) (by rw [List.length_set]; exact dd)
def appD : Nat × List D → List D → M D := fun c ds => match ds with
  | [y] => if c.2.length < sizeLine then putL c.1 (c.2 ++ [y]) .non else mno
  | _ => mno
theorem mf_append : MetF X "list.append" appD := by
  refine ⟨_, mt_append, fun W σ F ad S H c ds vs ws Q rs q hH dw dv h => ?_⟩
  unfold appD at h
  split at h
  · obtain ⟨v, rfl, d1⟩ := dv.one_inv
    split at h
    · rename_i cl
      exact ⟨_, ws, v, rfl, rfl, hH, by rw [← dw.length]; exact cl, fin_putL (d := D.non) rs q (dw.append (DPs.one d1)) rfl h⟩
    · exact h.elim
  · exact h.elim
def extD : Nat × List D → List D → M D := fun c ds => match ds with
  | [y] => bd (seqM y) fun ys => if c.2.length + ys.length ≤ sizeLine then putL c.1 (c.2 ++ ys) .non else mno
  | _ => mno
theorem mf_extend : MetF X "list.extend" extD := by
  refine ⟨_, mt_extend, fun W σ F ad S H c ds vs ws Q rs q hH dw dv h => ?_⟩
  unfold extD at h
  split at h
  · obtain ⟨v, rfl, d1⟩ := dv.one_inv
    obtain ⟨ys, S1, e1, h⟩ := Fin.look h fun _ _ => seqM_ex
    obtain ⟨rfl, a, us, rfl, h1, h2⟩ := seqM_at rs d1 e1
    split at h
    · rename_i cl
      exact ⟨_, a, ws, us, rfl, rfl, hH, h1, by rw [← dw.length, ← h2.length]; exact cl, fin_putL (d := D.non) rs q (dw.append h2) rfl h⟩
    · exact h.elim
  · exact h.elim
def popD : Nat × List D → List D → M D := fun c ds => match ds with
  | [.int i] => bd (opt (ixN c.2.length i)) fun k => bd (opt c.2[k]?) fun y => if inR i then putL c.1 (c.2.eraseIdx k) y else mno
  | _ => mno
theorem mf_popAt : MetF X "list.pop" popD := by
  refine ⟨_, mt_popAt, fun W σ F ad S H c ds vs ws Q rs q hH dw dv h => ?_⟩
  unfold popD at h
  split at h
  · rename_i i
    obtain ⟨v, rfl, d1⟩ := dv.one_inv
    cases d1
    obtain ⟨k, S0, e0, h⟩ := Fin.look h fun _ _ => opt_ex
    obtain ⟨rfl, ek⟩ := opt_ok e0
    obtain ⟨y, S1, e1, h⟩ := Fin.look h fun _ _ => opt_ex
    obtain ⟨rfl, e2⟩ := opt_ok e1
    split at h
    · rename_i cr
      obtain ⟨u, e3, d3⟩ := dw.at e2
      obtain ⟨sk, _⟩ := ixN_seq ek
      have c1 := cr.1
      have c2 := cr.2
      exact ⟨_, ws, i, k, u, rfl, rfl, hH, by omega, by omega, by rw [← dw.length]; exact sk, e3, fin_putL rs q (dw.eraseIdx k) d3 h⟩
    · exact h.elim
  · exact h.elim
def met (f : Env → M D) (t : Env → M (List D)) (g : Nat × List D → List D → M D) : Env → M D := fun env => bd (f env) fun x => bd (objL x) fun _ => bd (t env) fun ds => bd (objL x) fun c => g c ds
theorem met_core {r : V → List V → Hp → VK → Prop} {g : Nat × List D → List D → M D}
    (hq : ∀ (W : WX) (σ : L2.St) F ad S H c ds vs ws (Q : VK), RS X.K F ad S H → S[c.1]? = some (some (.lst c.2)) → H (ad c.1) = some (.lst ws) → DPs X.K F ad S.length c.2 ws → DPs X.K F ad S.length ds vs → Fin X W (DP X.K) σ F ad S H (g c ds S) Q → r (.ref (ad c.1)) vs H Q)
    {σ : L2.St} {H : Hp} {Q : VK} (h : tF X W (met f t g) σ H Q) : tBM X.K "list" r (tF X W f) (tL X W t) σ H Q := by
  obtain ⟨F, ad, env, S, re, rs, h⟩ := h
  refine ⟨F, ad, env, S, re, rs, Fin.seq re h fun F1 ad1 S1 x v H1 n1 re1 rs1 dp1 h1 => ?_⟩
  obtain ⟨c0, S2, e0, h1⟩ := Fin.look h1 fun _ _ => objL_ex
  obtain ⟨rfl, q0, vs0, ev, hH0, _⟩ := objL_at rs1 dp1 e0
  refine ⟨by rw [ev]; exact .inl ⟨rfl, _, SqL.of hH0⟩, F1, ad1, env, _, re1, rs1, Fin.seq re1 h1 fun F2 ad2 S2 ds us H2 n2 re2 rs2 dp2 h2 => ?_⟩
  obtain ⟨c, S3, e3, h2⟩ := Fin.look h2 fun _ _ => objL_ex
  obtain ⟨rfl, q3, ws, ev3, hH3, dw⟩ := objL_at rs2 (DP.mono n2.gr x v dp1) e3
  rw [ev3]
  exact hq W σ F2 ad2 _ H2 c ds us ws Q rs2 q3 hH3 dw dp2 h2
/-- what the call of a method of a built-in type asks of its text -/
structure Txt1 (X : Cx) (o : Expr) (name : Str) (apos cpos : Pos) (e : Expr) (es : List Expr) : Prop where
  base : attributeBase o name X.env (eval o X.env) = eval o X.env
  few : (((backTo cpos (starEach (e :: es) X.env)).all fun y => !y.1) && ((backToKw cpos (keywordEach [] X.env)).all fun y => y.1.isSome) && decide ((e :: es).length + ([] : List Keyword).length + (if ([] : List Keyword).isEmpty then 0 else 1) < 30)) = true
  line : (apos.endLine == cpos.line) = true
  star : starEach (e :: es) X.env = (false, eval e X.env) :: starEach es X.env
  plain : ((backTo cpos (starEach es X.env)).any fun y => y.1) = false
theorem fe_append {apos cpos : Pos} (x : Txt1 X a "append" apos cpos e es) (ho : FE X W a f) (ha : FA X W (e :: es) t) : FE X W (.Call (.Attribute a "append" apos) (e :: es) [] cpos) (met f t appD) := by
  obtain ⟨r, hr, hq⟩ := mf_append (X := X)
  exact ⟨PE.weak (pe_bm PySem.F.plainAttrs_list PySem.F.slot_list_append PySem.F.type_list_append hr ho.run ha.run x.base x.few x.line x.star x.plain) fun σ H Q h => met_core hq h⟩
theorem fe_extend {apos cpos : Pos} (x : Txt1 X a "extend" apos cpos e es) (ho : FE X W a f) (ha : FA X W (e :: es) t) : FE X W (.Call (.Attribute a "extend" apos) (e :: es) [] cpos) (met f t extD) := by
  obtain ⟨r, hr, hq⟩ := mf_extend (X := X)
  exact ⟨PE.weak (pe_bm PySem.F.plainAttrs_list PySem.F.slot_list_extend PySem.F.type_list_extend hr ho.run ha.run x.base x.few x.line x.star x.plain) fun σ H Q h => met_core hq h⟩
theorem fe_popAt {apos cpos : Pos} (x : Txt1 X a "pop" apos cpos e es) (ho : FE X W a f) (ha : FA X W (e :: es) t) : FE X W (.Call (.Attribute a "pop" apos) (e :: es) [] cpos) (met f t popD) := by
  obtain ⟨r, hr, hq⟩ := mf_popAt (X := X)
  exact ⟨PE.weak (pe_bm PySem.F.plainAttrs_list PySem.F.slot_list_pop PySem.F.type_list_pop hr ho.run ha.run x.base x.few x.line x.star x.plain) fun σ H Q h => met_core hq h⟩
/-- x.upper() -/
def upD : D → M D
  | .str x => if x.length ≤ 5592405 then pur (.str (Txt.upper x)) else mno
  | _ => mno
theorem fe_upper {apos : Pos} (ho : FE X W a f) (hbase : attributeBase a "upper" X.env (eval a X.env) = eval a X.env := by rfl) (hline : (apos.endLine == pos.line) = true := by rfl) : FE X W (.Call (.Attribute a "upper" apos) [] [] pos) (un upD f) := by
  refine ⟨PE.weak (pe_upper ho.run hbase hline) fun σ H Q ⟨F, ad, env, S, re, rs, h⟩ => ⟨F, ad, env, S, re, rs, Fin.seq re h fun F1 ad1 S1 d v H1 n1 re1 rs1 dp1 h1 => ?_⟩⟩
  cases d <;> first
    | exact h1.elim
    | skip
  rename_i z
  have h1 : Fin X W (DP X.K) σ F1 ad1 S1 H1 ((if z.length ≤ 5592405 then pur (.str (Txt.upper z)) else mno : M D) S1) Q := h1
  cases dp1
  split at h1
  · rename_i c
    exact ⟨⟨z, rfl⟩, z, rfl, rfl, c, Fin.pure rs1 h1 rfl⟩
  · exact h1.elim

/-! ### dicts of the store -/
def keyOf : D → Option Key
  | .int i => some (.inl i)
  | .str x => some (.inr x)
  | _ => none
theorem keyOf_V {K F ad L} {d : D} {v : V} {k : Key} (dp : DP K F ad L d v) (h : keyOf d = some k) : v = kV k := by
  cases d <;> first
    | (cases h; done)
    | (cases h; exact dp)
def valD (kvs : List (Key × D)) (k : Key) : Option D := (kvs.find? fun kv => decide (kv.1 = k)).map (·.2)
def putD (kvs : List (Key × D)) (k : Key) (d : D) : List (Key × D) :=
  if (kvs.any fun kv => decide (kv.1 = k)) = true then kvs.map (fun kv => if kv.1 = k then (kv.1, d) else kv) else kvs ++ [(k, d)]
theorem DPk.val {K F ad L} {k : Key} : ∀ {ds : List (Key × D)} {vs : List (Key × V)}, DPk K F ad L ds vs → (valD ds k = none ∧ valV vs k = none) ∨ ∃ d v, valD ds k = some d ∧ valV vs k = some v ∧ DP K F ad L d v
  | [], _, h => by cases h; exact .inl ⟨rfl, rfl⟩
  | (j, d) :: ds, _, ⟨v, r, e, h1, h2⟩ => by
    subst e
    by_cases q : j = k
    · refine .inr ⟨d, v, ?_, ?_, h1⟩ <;> simp [valD, valV, List.find?_cons, q]
    · have := DPk.val (k := k) h2
      simpa [valD, valV, List.find?_cons, q] using this
theorem DPk.upd {K F ad L} {k : Key} {d : D} {v : V} (hd : DP K F ad L d v) : ∀ {ds : List (Key × D)} {vs : List (Key × V)}, DPk K F ad L ds vs → DPk K F ad L (ds.map (fun kv => if kv.1 = k then (kv.1, d) else kv)) (vs.map (fun kv => if kv.1 = k then (kv.1, v) else kv))
  | [], _, h => by cases h; exact rfl
  | (j, x) :: ds, _, ⟨u, r, e, h1, h2⟩ => by
    subst e
    rw [List.map_cons, List.map_cons]
    by_cases q : j = k
    · rw [if_pos q, if_pos q]
      exact ⟨v, _, rfl, hd, DPk.upd hd h2⟩
    · rw [if_neg q, if_neg q]
      exact ⟨u, _, rfl, h1, DPk.upd hd h2⟩
theorem DPk.snoc {K F ad L} {k : Key} {d : D} {v : V} (hd : DP K F ad L d v) : ∀ {ds : List (Key × D)} {vs : List (Key × V)}, DPk K F ad L ds vs → DPk K F ad L (ds ++ [(k, d)]) (vs ++ [(k, v)])
  | [], _, h => by cases h; exact ⟨v, [], rfl, hd, rfl⟩
  | (j, x) :: ds, _, ⟨u, r, e, h1, h2⟩ => by
    subst e
    exact ⟨u, _, rfl, h1, DPk.snoc hd h2⟩
theorem DPk.anyk {K F ad L} {k : Key} : ∀ {ds : List (Key × D)} {vs : List (Key × V)}, DPk K F ad L ds vs → (ds.any fun kv => decide (kv.1 = k)) = (vs.any fun kv => decide (kv.1 = k))
  | [], _, h => by cases h; rfl
  | (j, x) :: ds, _, ⟨u, r, e, h1, h2⟩ => by
    subst e
    rw [List.any_cons, List.any_cons, DPk.anyk h2]
theorem DPk.put {K F ad L} {k : Key} {d : D} {v : V} (hd : DP K F ad L d v) {ds : List (Key × D)} {vs : List (Key × V)} (h : DPk K F ad L ds vs) : DPk K F ad L (putD ds k d) (putK vs k v) := by
  unfold putD putK
  rw [h.anyk]
  split
  · exact h.upd hd
  · exact h.snoc hd
def objK (x : D) : M (Nat × List (Key × D)) := match x with
  | .obj n => fun S => match S[n]? with
    | some (some (.dct xs)) => .ok (n, xs) S
    | _ => .no
  | _ => mno
theorem objK_ex {d : D} {x : Ex} {S S' : Store} (h : objK d S = .ex x S') : False := by
  cases d <;> simp [objK, mno] at h
  split at h <;> cases h
theorem objK_at {F ad S H} {d : D} {v : V} {r : Nat × List (Key × D)} {S' : Store} (rs : RS X.K F ad S H) (dp : DP X.K F ad S.length d v) (h : objK d S = .ok r S') :
    S' = S ∧ S[r.1]? = some (some (.dct r.2)) ∧ ∃ vs, v = .ref (ad r.1) ∧ H (ad r.1) = some (.dK vs) ∧ DPk X.K F ad S.length r.2 vs := by
  cases d with
  | obj n =>
    obtain ⟨hn, rfl⟩ := dp
    simp only [objK] at h
    split at h
    · rename_i xs q
      cases h
      obtain ⟨h1, o, h2, vs, h3, h4⟩ := rs.liv n _ q
      subst h3
      exact ⟨rfl, q, vs, rfl, h2, h4⟩
    · cases h
  | _ => cases h
/-- d[k] -/
def dgetD (x y : D) : M D := bd (objK x) fun c => bd (opt (keyOf y)) fun k => opt (valD c.2 k)
theorem fe_dget (hu : X.A.units + 1 < cLine) (ho : FE X W a f1) (hi : FE X W b f2) (hs : NoSl b) : FE X W (.Subscript a b pos) (bin dgetD f1 f2) := by
  refine ⟨PE.weak (pe_dget hu ho.run hi.run hs) fun σ H Q ⟨F, ad, env, S, re, rs, h⟩ => ⟨F, ad, env, S, re, rs, Fin.seq re h fun F1 ad1 S1 x v H1 n1 re1 rs1 dp1 h1 => ?_⟩⟩
  refine ⟨F1, ad1, env, S1, re1, rs1, Fin.seq re1 h1 fun F2 ad2 S2 y w H2 n2 re2 rs2 dp2 h2 => ?_⟩
  obtain ⟨c, S3, e3, h2⟩ := Fin.look h2 fun _ _ => objK_ex
  obtain ⟨rfl, q, vs, rfl, hH, dk⟩ := objK_at rs2 (DP.mono n2.gr x v dp1) e3
  obtain ⟨k, S4, e4, h2⟩ := Fin.look h2 fun _ _ => opt_ex
  obtain ⟨rfl, e5⟩ := opt_ok e4
  have ew := keyOf_V dp2 e5
  subst ew
  rcases dk.val (k := k) with ⟨z, _⟩ | ⟨d, u, e6, e7, d7⟩
  · rw [z] at h2; exact h2.elim
  · rw [e6] at h2
    exact ⟨_, u, rfl, by rw [← e7]; exact DGet.k hH, Fin.pure rs2 h2 d7⟩
/-- d[k] = e: the value first -/
def dput (f1 f2 f3 : Env → M D) : Env → MS := fun env => lft (f3 env) env fun d => lft (f1 env) env fun x => lft (f2 env) env fun y => lft (objK x) env fun c => lft (opt (keyOf y)) env fun k S =>
  if c.2.length < sizeLine then .ok (.nx env) (S.set c.1 (some (.dct (putD c.2 k d)))) else .no
theorem FinS.look {γ : Type} {D : Ends} {F ad S H} {m : M γ} {env : Env} {k : γ → MS} (h : FinS X W D F ad S H (lft m env k S)) (hx : ∀ e S', m S = .ex e S' → False) : ∃ c S1, m S = .ok c S1 ∧ FinS X W D F ad S H (k c S1) := by
  simp only [lft] at h
  cases e : m S with
  | ok c S1 => rw [e] at h; exact ⟨c, S1, rfl, h⟩
  | ex x S1 => exact (hx x S1 e).elim
  | no => rw [e] at h; exact h.elim
theorem fs_dput {pos' : Pos} {c : Expr} {f3 : Env → M D} (hu : X.A.units + 1 < cLine) (ho : FE X W a f1) (hi : FE X W b f2) (hv : FE X W c f3) (hs : swapsWith c (some (.Subscript a b pos')) pos.line X.env = pure false) :
    FS X W (.Assign [.Subscript a b pos'] c pos) (dput f1 f2 f3) := by
  refine ⟨PS.weakI (ps_dput hu ho.run hi.run hv.run hs) fun D σ H hl ⟨F, ad, env, S, re, rs, h⟩ => ⟨F, ad, env, S, re, rs, FinS.seqE re hl h fun F1 ad1 S1 d v H1 n1 re1 rs1 dp1 h1 => ?_⟩⟩
  refine ⟨F1, ad1, env, S1, re1, rs1, FinS.seqE re1 hl h1 fun F2 ad2 S2 x u H2 n2 re2 rs2 dp2 h2 => ?_⟩
  refine ⟨F2, ad2, env, S2, re2, rs2, FinS.seqE re2 hl h2 fun F3 ad3 S3 y w H3 n3 re3 rs3 dp3 h3 => ?_⟩
  obtain ⟨cc, S4, e4, h3⟩ := FinS.look h3 fun _ _ => objK_ex
  obtain ⟨rfl, q, vs, rfl, hH, dk⟩ := objK_at rs3 (DP.mono n3.gr x u dp2) e4
  obtain ⟨k, S5, e5, h3⟩ := FinS.look h3 fun _ _ => opt_ex
  obtain ⟨rfl, e6⟩ := opt_ok e5
  have ew := keyOf_V dp3 e6
  subst ew
  have h3 : FinS X W D F3 ad3 S5 H3 (if cc.2.length < sizeLine then .ok (.nx env) (S5.set cc.1 (some (.dct (putD cc.2 k d)))) else .no) := h3
  split at h3
  · rename_i cl
    refine ⟨_, _, rfl, DPut.k hH (by rw [← dk.length]; exact cl), ?_⟩
    refine h3 σ F3 ad3 _ (Nx.put rs3 q) (rs3.put q ⟨_, rfl, dk.put (DP.mono (n2.trans n3).gr d v dp1)⟩) (by rw [List.length_set]; exact re3) hl
  · exact h3.elim
/-- {k: e, ..}, the keys written -/
def FP (X : Cx) (W : WX) (pos : Pos) (keys : List (Option Expr)) (values : List Expr) (ks : List Key) (t : Env → M (List D)) : Prop := ∃ trs, PPs X pos keys values trs ∧
  ∀ σ F ad env S H (Q : List (V × V) → Hp → Prop), RE X.K F ad S.length env σ → RS X.K F ad S H → Fin X W (fun F ad L ds ps => ∃ vs, DPs X.K F ad L ds vs ∧ ds.length = ks.length ∧ ps = (ks.map kV).zip vs) σ F ad S H (t env S) Q → tPairs trs σ H Q
theorem fp_nil : FP X W pos [] [] [] (fun _ => pur []) := ⟨_, pps_nil, fun σ F ad env S H Q re rs h => Fin.pure rs h ⟨[], rfl, rfl, rfl⟩⟩
theorem fp_cons {kx vx : Expr} {ks : List (Option Expr)} {vs : List Expr} {k : Key} {kl : List Key} (hk : PE X kx (tC (kV k))) (hv : FE X W vx f) (hr : FP X W pos ks vs kl t) : FP X W pos (some kx :: ks) (vx :: vs) (k :: kl) (cns f t) := by
  obtain ⟨trs, p1, p2⟩ := hr
  refine ⟨_, pps_cons hk hv.run p1, fun σ F ad env S H Q re rs h => ⟨F, ad, env, S, re, rs, Fin.seq re h fun F1 ad1 S1 d v H1 n1 re1 rs1 dp1 h1 => ?_⟩⟩
  refine p2 σ F1 ad1 env S1 H1 _ re1 rs1 (Fin.seq re1 h1 fun F2 ad2 S2 ds ps H2 n2 re2 rs2 ⟨us, du, el, ep⟩ h2 => ?_)
  subst ep
  exact Fin.pure rs2 h2 ⟨v :: us, ⟨v, us, rfl, DP.mono n2.gr d v dp1, du⟩, by simp [el], rfl⟩
def mergeD (kvs more : List (Key × D)) : List (Key × D) := more.foldl (fun acc kv => putD acc kv.1 kv.2) kvs
theorem DPk.merge {K F ad L} : ∀ {ds : List (Key × D)} {vs : List (Key × V)} {es : List (Key × D)} {us : List (Key × V)}, DPk K F ad L ds vs → DPk K F ad L es us → DPk K F ad L (mergeD es ds) (mergeK us vs)
  | [], _, _, _, h, g => by cases h; exact g
  | (j, x) :: ds, _, es, us, ⟨u, r, e, h1, h2⟩, g => by
    subst e
    show DPk K F ad L (mergeD (putD es j x) ds) (mergeK (putK us j u) r)
    exact DPk.merge h2 (g.put h1)
theorem DPk.zip {K F ad L} : ∀ {ks : List Key} {ds : List D} {vs : List V}, DPs K F ad L ds vs → DPk K F ad L (ks.zip ds) (ks.zip vs)
  | [], _, _, _ => by simp [DPk]
  | _ :: _, [], _, h => by cases h; simp [DPk]
  | k :: ks, d :: ds, _, ⟨v, r, e, h1, h2⟩ => by
    subst e
    exact ⟨v, _, rfl, h1, DPk.zip h2⟩
def dspD (ks : List Key) (t : Env → M (List D)) : Env → M D := fun env => bd (t env) fun ds => mkO (.dct (mergeD [] (ks.zip ds)))
theorem fe_dict {keys : List (Option Expr)} {values : List Expr} {ks : List Key} (hp : FP X W pos keys values ks t) (hall : keys.all (·.isSome) = true) (hl : keys.length = values.length) (h0 : keys ≠ []) (h15 : keys.length ≤ 15) (hks : ks.length ≤ 15) :
    FE X W (.Dict keys values pos) (dspD ks t) := by
  obtain ⟨trs, p1, p2⟩ := hp
  refine ⟨PE.weak (pe_disp p1 hall hl h0 h15) fun σ H Q ⟨F, ad, env, S, re, rs, h⟩ p hp => ?_⟩
  have nl : ¬ Live S ad p := fun ⟨n, od, e, z⟩ => by
    obtain ⟨_, u, h2, _⟩ := rs.liv n od e
    rw [z, hp] at h2; cases h2
  have rs0 := rs.priv (o := .dK []) (F_none rs hp) nl (none_ne hp)
  -- the parts, evaluated beside the empty dict
  refine p2 σ F ad env S _ _ re rs0 ?_
  simp only [dspD, bd] at h
  cases e : t env S with
  | no => rw [e] at h; exact h.elim
  | ex x S1 =>
    rw [e] at h
    exact fun c dd F1 ad1 H1 n1 r1 er => h c dd F1 ad1 H1 (Nx.unpriv n1 hp) r1 er
  | ok ds S1 =>
    rw [e] at h
    intro ps F1 ad1 H1 n1 rs1 ⟨vs, dv, el, ep⟩
    obtain ⟨k1, k2, k3⟩ := n1.still upd_same (F_none rs hp) nl dk_ne.1
    refine ⟨k1, ks.zip vs, ?_, ?_, ?_⟩
    · rw [ep]
      have : ∀ (ks : List Key) (vs : List V), (ks.map kV).zip vs = (ks.zip vs).map fun kv => (kV kv.1, kv.2) := fun ks => by
        induction ks with
        | nil => intro vs; rfl
        | cons k ks ih =>
          intro vs
          cases vs with
          | nil => rfl
          | cons v vs => rw [List.map_cons, List.zip_cons_cons, List.zip_cons_cons, List.map_cons, ih]
      exact this ks vs
    · rw [List.length_zip]; omega
    · have n2 : Nx F ad S H F1 ad1 S1 H1 := Nx.unpriv n1 hp
      have rs2 := rs1.priv (o := .dK (mergeK [] (ks.zip vs))) k2 k3 (some_nk k1)
      have n3 : Nx F ad S H F1 ad1 S1 (upd H1 p (.dK (mergeK [] (ks.zip vs)))) := n2.priv hp
      exact h (.ref p) F1 _ _ (n3.enrol hp) (rs2.enrol upd_same k2 k3 ⟨_, rfl, DPk.merge (DPk.zip dv) rfl⟩) ⟨by simp, by rw [adn_same]⟩
end
end Fx

end
/-! ## Fx8 -/
section
namespace Fx
open PySem PySem.Spec PyProof.Rows L2
variable [tb : Tabl]
/-! ### texts in order -/
def leS (a b : Str) : Bool := !ltCps b.cps.toList a.cps.toList
theorem leS_iff {a b : Str} : leS a b = true ↔ ¬ b.cps.toList < a.cps.toList := by unfold leS; rw [ltCps_eq]; simp
theorem leS_total (a b : Str) : (leS a b || leS b a) = true := by
  rw [Bool.or_eq_true, leS_iff, leS_iff]
  by_cases h : b.cps.toList < a.cps.toList
  · exact .inr (List.lt_asymm h)
  · exact .inl h
theorem leS_trans (a b c : Str) (h1 : leS a b = true) (h2 : leS b c = true) : leS a c = true := by
  rw [leS_iff] at *
  exact fun h => by
    have h1 : a.cps.toList ≤ b.cps.toList := h1
    have h2 : b.cps.toList ≤ c.cps.toList := h2
    have h3 : a.cps.toList ≤ c.cps.toList := List.le_trans h1 h2
    exact h3 h
theorem leS_antisymm {a b : Str} (h1 : leS a b = true) (h2 : leS b a = true) : a = b := by
  rw [leS_iff] at *
  have h1 : a.cps.toList ≤ b.cps.toList := h1
  have h2 : b.cps.toList ≤ a.cps.toList := h2
  have e : a.cps.toList = b.cps.toList := List.le_antisymm h1 h2
  obtain ⟨⟨x⟩⟩ := a
  obtain ⟨⟨y⟩⟩ := b
  simp only at e
  rw [e]
def srt (xs : List Str) : List Str := xs.mergeSort leS
theorem rising_iff : ∀ (xs : List Str) (p : Str), risingS p xs = true → (p :: xs).Pairwise (fun a b => leS a b = true)
  | [], p, _ => by simp
  | x :: xs, p, h => by
    unfold risingS at h
    rw [Bool.and_eq_true] at h
    have ih := rising_iff xs x h.2
    refine List.pairwise_cons.mpr ⟨fun y hy => ?_, ih⟩
    have hx : leS p x = true := h.1
    rcases List.mem_cons.mp hy with rfl | hy
    · exact hx
    · exact leS_trans p x y hx ((List.pairwise_cons.mp ih).1 y hy)
theorem sorted_pw {xs : List Str} (h : sortedS xs = true) : xs.Pairwise (fun a b => leS a b = true) := by
  cases xs with
  | nil => exact .nil
  | cons x r => exact rising_iff r x h
theorem pw_unique : ∀ {xs ys : List Str}, xs.Pairwise (fun a b => leS a b = true) → ys.Pairwise (fun a b => leS a b = true) → xs.Perm ys → xs = ys
  | [], ys, _, _, p => by rw [List.Perm.nil_eq p]
  | x :: xs, [], _, _, p => by have := p.length_eq; simp at this
  | x :: xs, y :: ys, h1, h2, p => by
    have q1 := List.pairwise_cons.mp h1
    have q2 := List.pairwise_cons.mp h2
    have hx : x ∈ y :: ys := p.mem_iff.mp List.mem_cons_self
    have hy : y ∈ x :: xs := p.mem_iff.mpr List.mem_cons_self
    have e : x = y := by
      rcases List.mem_cons.mp hx with e | hx
      · exact e
      · rcases List.mem_cons.mp hy with e | hy
        · exact e.symm
        · exact leS_antisymm (q1.1 y hy) (q2.1 x hx)
    subst e
    rw [pw_unique q1.2 q2.2 (List.Perm.cons_inv p)]
theorem srt_eq {xs ys : List Str} (p : ys.Perm xs) (s : sortedS ys = true) : ys = srt xs :=
  pw_unique (sorted_pw s) (List.pairwise_mergeSort leS_trans leS_total xs) (p.trans (List.mergeSort_perm xs leS).symm)

section
variable {X : Cx} {W : WX} {pos p : Pos} {e a b : Expr} {es : List Expr} {f f1 f2 : Env → M D} {t : Env → M (List D)}
/-- sorted(..) of texts, or of a dict's keys -/
def keysS : List (Key × D) → Option (List Str)
  | [] => some []
  | (.inr x, _) :: r => match keysS r with
    | some xs => some (x :: xs)
    | none => none
  | _ => none
theorem keysS_at {K F ad L} : ∀ {ds : List (Key × D)} {vs : List (Key × V)} {ks : List Str}, DPk K F ad L ds vs → keysS ds = some ks → vs.map (·.1) = ks.map Sum.inr
  | [], _, _, h, e => by cases h; cases e; rfl
  | (.inr x, d) :: ds, _, _, ⟨v, r, e1, h1, h2⟩, e => by
    simp only [keysS] at e
    split at e
    · rename_i xs q
      cases e
      subst e1
      rw [List.map_cons, List.map_cons, keysS_at h2 q]
    · cases e
  | (.inl x, d) :: ds, _, _, h, e => by simp [keysS] at e
def srtM (mk : List D → M D) (xs : List Str) : M D := if xs.length < 64 then mk ((srt xs).map D.str) else mno
def sortedD (mk : List D → M D) : List D → M D
  | [.obj n] => fun S => match S[n]? with
    | some (some (.lst ds)) => bd (opt (strsOf ds)) (srtM mk) S
    | some (some (.dct kvs)) => bd (opt (keysS kvs)) (srtM mk) S
    | _ => .no
  | [d] => bd (seqL d) fun ds => bd (opt (strsOf ds)) (srtM mk)
  | _ => mno
theorem dps_strs {K F ad L} : ∀ ys : List Str, DPs K F ad L (ys.map D.str) (ys.map V.str)
  | [] => rfl
  | y :: ys => ⟨.str y, ys.map V.str, rfl, rfl, dps_strs ys⟩
theorem srt_go {mk : List D → M D} (hm : MkOk X mk) {σ : L2.St} {F ad S H} {xs : List Str} {Q : VK} (rs : RS X.K F ad S H) (h : Fin X W (DP X.K) σ F ad S H (srtM mk xs S) Q) :
    xs.length < 64 ∧ ∀ (ys : List Str) (p : Addr), ys.Perm xs → sortedS ys = true → H p = none → Q (.ref p) (upd H p (.lst (ys.map V.str))) := by
  unfold srtM at h
  split at h
  · rename_i c
    refine ⟨c, fun ys p hp hs hn => ?_⟩
    have := srt_eq hp hs
    subst this
    exact (hm W σ F ad S H Q _ _ rs (dps_strs _) h).2 p hn
  · exact h.elim
theorem cf_sorted {mk : List D → M D} (hm : MkOk X mk) (hc : X.calm = true) : CallF X (.builtin "sorted") (sortedD mk) := by
  refine ⟨_, cr_sortedS.or (call_sortedD hc), fun W σ F ad S H ds vs Q rs dp h => ?_⟩
  unfold sortedD at h
  split at h
  · obtain ⟨v, rfl, hn, rfl⟩ := dp.one_inv
    split at h
    · rename_i xs q
      obtain ⟨h1, o, h2, us, h3, h4⟩ := rs.liv _ _ q
      subst h3
      obtain ⟨ss, S2, e2, h⟩ := Fin.look h fun _ _ => opt_ex
      obtain ⟨rfl, e3⟩ := opt_ok e2
      have := strsOf_at h4 e3
      subst this
      obtain ⟨c, k⟩ := srt_go hm rs h
      exact .inl ⟨_, ss, rfl, SqL.of h2, c, k⟩
    · rename_i xs q
      obtain ⟨h1, o, h2, us, h3, h4⟩ := rs.liv _ _ q
      subst h3
      obtain ⟨ss, S2, e2, h⟩ := Fin.look h fun _ _ => opt_ex
      obtain ⟨rfl, e3⟩ := opt_ok e2
      obtain ⟨c, k⟩ := srt_go hm rs h
      exact .inr ⟨_, us, ss, rfl, .inl h2, keysS_at h4 e3, c, k⟩
    · exact h.elim
  · obtain ⟨v, rfl, d1⟩ := dp.one_inv
    obtain ⟨xs, S1, e1, h⟩ := Fin.look h fun _ _ => seqL_ex
    obtain ⟨rfl, a, us, rfl, h1, h2⟩ := seqL_at rs d1 e1
    obtain ⟨ss, S2, e2, h⟩ := Fin.look h fun _ _ => opt_ex
    obtain ⟨rfl, e3⟩ := opt_ok e2
    have := strsOf_at h2 e3
    subst this
    obtain ⟨c, k⟩ := srt_go hm rs h
    exact .inl ⟨a, ss, rfl, h1, c, k⟩
  · exact h.elim
/-! ### dict(list of pairs) -/
def pairsK : List D → Option (List (Key × D))
  | [] => some []
  | .tup [k, d] :: r => match keyOf k, pairsK r with
    | some j, some kvs => some ((j, d) :: kvs)
    | _, _ => none
  | _ => none
theorem pairsK_at {F ad L} {H : Hp} (sub : ∀ a o, F a = some o → H a = some o) : ∀ {ds : List D} {vs : List V} {kvs : List (Key × D)}, DPs X.K F ad L ds vs → pairsK ds = some kvs →
    ∃ (ps : List Addr) (us : List (Key × V)), vs = ps.map V.ref ∧ DPk X.K F ad L kvs us ∧ Paired (fun p (kv : Key × V) => SqT X.K H p [kV kv.1, kv.2]) ps us
  | [], _, _, h, e => by cases h; cases e; exact ⟨[], [], rfl, rfl, .nil⟩
  | d :: ds, _, _, ⟨v, r, e1, h1, h2⟩, e => by
    unfold pairsK at e
    split at e
    · cases e; rename_i q; cases q
    · rename_i k d' r' q
      cases q
      split at e
      · rename_i j kvs' q1 q2
        cases e
        obtain ⟨a, xs, rfl, s1, y, z, rfl, dk, y2, z2, rfl, dd, z3⟩ := h1
        cases z3
        obtain ⟨ps, us, rfl, dp, pr⟩ := pairsK_at sub h2 q2
        have ey := keyOf_V dk q1
        subst ey
        subst e1
        exact ⟨a :: ps, (j, y2) :: us, rfl, ⟨y2, us, rfl, dd, dp⟩, .cons (sqT_mono sub s1.sq) pr⟩
      · cases e
    · cases e
theorem pick_all {α β : Type} : ∀ {l : List α} {P : Nat → α → β → Prop}, (∀ j q, l[j]? = some q → ∃ u, P j q u) → ∃ us : List β, us.length = l.length ∧ ∀ j q, l[j]? = some q → ∃ u, us[j]? = some u ∧ P j q u
  | [], _, _ => ⟨[], rfl, fun j q e => by simp at e⟩
  | x :: l, P, h => by
    obtain ⟨u, hu⟩ := h 0 x rfl
    obtain ⟨us, h1, h2⟩ := pick_all (l := l) (P := fun j => P (j + 1)) fun j q e => h (j + 1) q (by simpa using e)
    refine ⟨u :: us, by simp [h1], fun j q e => ?_⟩
    cases j with
    | zero => cases e; exact ⟨u, rfl, hu⟩
    | succ j => simpa using h2 j q (by simpa using e)
/-- dict(t) of a tuple of pairs -/
theorem call_dictT (hcalm : X.calm = true) : CallR X (.type "dict") (fun xs H Q => ∃ (a : Addr) (ps : List Addr) (kvs : List (Key × V)), xs = [.ref a] ∧ SqC X.K H a (ps.map V.ref) ∧ Paired (fun p kv => SqT X.K H p [kV kv.1, kv.2]) ps kvs ∧
    ∀ p, H p = none → Q (.ref p) (upd H p (.dK (mergeK [] kvs)))) := by
  intro pins s σ H xs us Q I r q
  obtain ⟨a, ps, kvs, ex, hq, hp, q⟩ := q
  subst ex
  obtain ⟨u, eu, rx⟩ := vals1 r
  subst eu
  cases rx
  have obj : ∃ its : List Value, Vals (ps.map V.ref) its ∧ PlainSeq "tuple" s.heap a its.toArray ∧ its.length ≤ sizeLine := by
    rcases hq with ⟨o, h1, h2⟩ | ⟨o, its, n, h1, h2, h3, h4, h5, h6⟩
    · obtain ⟨g1, z, its, r, o', g2, g3, n, g4⟩ := I.hok a _ h1
      rw [g1] at g2
      cases g2
      exact ⟨its, r, ⟨o, n, g1, g3, h2, g4⟩, by rw [← r.length]; exact z⟩
    · exact ⟨its.toList, h6, ⟨o, n, I.kIn a o h1, h2, h3, by simpa using h4⟩, by simpa using h5⟩
  obtain ⟨its, rv, pl, hz⟩ := obj
  have ei := refs_at rv
  subst ei
  rw [List.length_map] at hz
  obtain ⟨prs, rel, hl, hpr⟩ := pairs_of I hp
  obtain ⟨kv, k1, k2⟩ := pick_all (α := Key × Value) (β := Value × Value) (l := prs) (P := fun (j : Nat) (q : Key × Value) (w : Value × Value) => w.2 = q.2 ∧ ∃ b, ps[j]? = some b ∧ IsTup s.heap b #[w.1, q.2] ∧ keyIs q.1 w.1 = true) fun j q e => by
    obtain ⟨b, u, e1, e2, e3⟩ := hpr j q e
    exact ⟨(u, q.2), rfl, b, e1, e2, e3⟩
  have back : ∀ (j : Nat) (w : Value × Value), kv[j]? = some w → ∃ q : Key × Value, prs[j]? = some q ∧ w.2 = q.2 ∧ ∃ b, ps[j]? = some b ∧ IsTup s.heap b #[w.1, q.2] ∧ keyIs q.1 w.1 = true := fun j w e => by
    have hj : j < prs.length := by rw [← k1]; exact lt_of_some e
    obtain ⟨w', e1, e2⟩ := k2 j prs[j] (List.getElem?_eq_getElem hj)
    rw [e] at e1
    cases e1
    exact ⟨_, List.getElem?_eq_getElem hj, e2⟩
  refine PySem.call_dict_pairs (knd := mixKind X.prog X.w) (kvs := prs) (PairArg.tuple a (ps.map Value.ref).toArray (fun j => ps.getD j 0) kv) (I.ok.hd hcalm) ⟨pl, by simp [k1, hl], fun j k v e => ?_⟩ ⟨k1.symm, fun i key v e => ?_⟩ (by rw [k1, hl]; exact hz) fun h' tk hd' kp => ?_
  · obtain ⟨q', f1, f2, b, f3, f4, f5⟩ := back j (k, v) e
    have f2 : v = q'.2 := f2
    subst f2
    refine ⟨by simp [f3, List.getD], .inl ?_⟩
    simp only [List.getD, f3, Option.getD_some]
    exact f4
  · obtain ⟨q', f1, f2, b, f3, f4, f5⟩ := back i (key, v) e
    have f2 : v = q'.2 := f2
    exact ⟨q'.1, by rw [f1, f2], f5⟩
  · have hm : (s.heap.objs.size == sysModules) = false := beq_eq_false_iff_ne.mpr (Nat.ne_of_gt I.big)
    have hlen : (mergeK [] kvs).length ≤ sizeLine := by
      refine Nat.le_trans (length_mergeK kvs []) ?_
      rw [List.length_nil, Nat.zero_add, rel.length, hl]
      exact hz
    exact ⟨.ref s.heap.objs.size, upd H s.heap.objs.size (.dK (mergeK [] kvs)), I.laid (t' := tk) (fun b o e => kp b o (by simp) e) (Nat.le_refl _) (show ObjOk X.prog X.w _ _ _ (.dK (mergeK [] kvs)) from ⟨hlen, hm, merged [] prs, KV.merge rel .nil, hd'⟩), rfl, q _ (I.hok.fresh (Nat.le_refl _))⟩
def dictD : List D → M D
  | [.tup ds] => bd (opt (pairsK ds)) fun kvs => mkO (.dct (mergeD [] kvs))
  | [d] => bd (seqL d) fun ds => bd (opt (pairsK ds)) fun kvs => mkO (.dct (mergeD [] kvs))
  | _ => mno
theorem cf_dict (hc : X.calm = true) : CallF X (.type "dict") dictD := by
  refine ⟨_, (call_dictP hc).or (call_dictT hc), fun W σ F ad S H ds vs Q rs dp h => ?_⟩
  unfold dictD at h
  split at h
  · obtain ⟨v, rfl, a, us, rfl, h1, h2⟩ := dp.one_inv
    obtain ⟨kvs, S2, e2, h⟩ := Fin.look h fun _ _ => opt_ex
    obtain ⟨rfl, e3⟩ := opt_ok e2
    obtain ⟨ps, ws, rfl, dk, pr⟩ := pairsK_at rs.sub h2 e3
    exact .inr ⟨a, ps, ws, rfl, sqC_mono rs.sub h1, pr, fin_mkO (od := .dct (mergeD [] kvs)) rs ⟨_, rfl, DPk.merge dk rfl⟩ h⟩
  · obtain ⟨v, rfl, d1⟩ := dp.one_inv
    obtain ⟨xs, S1, e1, h⟩ := Fin.look h fun _ _ => seqL_ex
    obtain ⟨rfl, a, us, rfl, h1, h2⟩ := seqL_at rs d1 e1
    obtain ⟨kvs, S2, e2, h⟩ := Fin.look h fun _ _ => opt_ex
    obtain ⟨rfl, e3⟩ := opt_ok e2
    obtain ⟨ps, ws, rfl, dk, pr⟩ := pairsK_at rs.sub h2 e3
    exact .inl ⟨a, ps, ws, rfl, h1, pr, fin_mkO (od := .dct (mergeD [] kvs)) rs ⟨_, rfl, DPk.merge dk rfl⟩ h⟩
  · exact h.elim
/-! ### repr -/
theorem call_repr (hG : X.A.guards = some []) (hu : X.A.units + 66 < cLine) : CallR X (.builtin "repr") (fun xs H Q => ∃ v p, xs = [v] ∧ Dp X.K H v p ∧ p.showable = true ∧ p.hasDict = false ∧ p.depth ≤ 64 ∧ p.shown.length ≤ sizeLine ∧ Q (.str p.shown) H) := by
  intro pins s σ H xs us Q I r h
  obtain ⟨v, d, rfl, dp, hs, hd, hdep, hz, q⟩ := h
  obtain ⟨u, rfl, ru⟩ := vals1 r
  obtain ⟨as, rd⟩ := Dp.reads I d v u dp ru
  cases d with
  | none => cases dp; cases ru; exact PySem.P.repr_of_none ⟨.str "None", H, I.tok _, ⟨_, rfl⟩, q⟩
  | bool b => cases dp; cases ru; exact PySem.P.repr_of_bool ⟨.str (if b then "True" else "False"), H, I.tok _, ⟨_, rfl⟩, q⟩
  | int i =>
    cases dp
    obtain ⟨tk, rfl⟩ := ru
    exact PySem.P.repr_of_int (by simpa [PyData.showable] using hs) ⟨.str (toString i), H, I.tok _, ⟨_, rfl⟩, q⟩
  | str x =>
    cases dp
    obtain ⟨tk, rfl⟩ := ru
    exact PySem.P.repr_of_str ⟨.str (reprText x), H, I.tok _, ⟨_, rfl⟩, q⟩ (by simpa [PyData.shown] using hz)
  | dict _ => cases dp
  | list ds =>
    cases dp with
    | lst hs1 ha =>
      cases ru
      exact repr_of_reads' rd hs (PyData.noDict_hsm hd) hG (by omega) (fun _ _ z => z) (fun h' u tk hk => ⟨.str _, H, I.kept (t' := tk) hk, ⟨u, rfl⟩, q⟩) hz
  | tuple ds =>
    cases dp with
    | tup hs1 ha =>
      cases ru
      exact repr_of_reads' rd hs (PyData.noDict_hsm hd) hG (by omega) (fun _ _ z => z) (fun h' u tk hk => ⟨.str _, H, I.kept (t' := tk) hk, ⟨u, rfl⟩, q⟩) hz
def shows (p : PyData) : Prop := p.showable = true ∧ p.hasDict = false ∧ p.depth ≤ 64 ∧ p.shown.length ≤ sizeLine
instance (p : PyData) : Decidable (shows p) := inferInstanceAs (Decidable (_ ∧ _))
def reprD : List D → M D
  | [d] => bd (pyM d) fun p => if shows p then pur (.str p.shown) else mno
  | _ => mno
theorem cf_repr (hG : X.A.guards = some []) (hu : X.A.units + 66 < cLine) : CallF X (.builtin "repr") reprD := by
  refine ⟨_, call_repr hG hu, fun W σ F ad S H ds vs Q rs dp h => ?_⟩
  unfold reprD at h
  split at h
  · obtain ⟨v, rfl, d1⟩ := dp.one_inv
    obtain ⟨q, S1, e1, h⟩ := Fin.look h fun _ _ => pyM_ex
    obtain ⟨rfl, dq⟩ := pyM_at rs d1 e1
    split at h
    · rename_i c
      exact ⟨v, q, rfl, dq, c.1, c.2.1, c.2.2.1, c.2.2.2, Fin.pure rs h rfl⟩
    · exact h.elim
  · exact h.elim
end
end Fx

end
/-! ## Fx9 -/
section
namespace Fx
open PySem PySem.Spec PyProof.Rows L2
variable [tb : Tabl]

/-! ### a def by its body -/
/-- the slots at the entry -/
def ent (n : Nat) (ds : List D) : Env := ds.map some ++ List.replicate (n - ds.length) none
theorem re_ent {K F ad L} {N : List Str} {ds : List D} {vs : List V} (h : DPs K F ad L ds vs) : RE K F ad L (ent N.length ds) (L2.start N vs) := fun i d e => by
  unfold ent at e
  unfold L2.start
  by_cases hi : i < ds.length
  · rw [List.getElem?_append_left (by simpa using hi), List.getElem?_map] at e
    cases q : ds[i]? with
    | none => rw [q] at e; cases e
    | some d' =>
      rw [q] at e; cases e
      obtain ⟨v, e1, e2⟩ := h.at q
      exact ⟨v, by rw [List.getElem?_append_left (by simpa using lt_of_some e1), List.getElem?_map, e1]; rfl, e2⟩
  · rw [List.getElem?_append_right (by simpa using hi), List.getElem?_replicate] at e
    split at e <;> cases e
/-- what the body's function says of the def -/
def bodyD (n m : Nat) (b : Env → MS) : List D → M D := fun ds S => if ds.length = m then (match b (ent n ds) S with
  | .ok (.rt d) S' => .ok d S'
  | .ok (.nx _) S' => .ok .non S'
  | .ex e _ S' => .ex e S'
  | _ => .no) else .no
/-- the context of a def's body -/
abbrev bodyCx (P : Program) (w : World) (K : PySem.W.Frag) (mg : Str → Option Value) (base : Heap) (N : List Str) (qual : Str) (scope : Scope) (f : Addr) (cd : Value) (A : Around) (outer : List PySem.Env) (s : Shared) (H : Hp) (E : XK) : Cx :=
  cxOf (L2.CX P w) P w K mg base N qual scope f cd A outer s H E
abbrev WE (E : XK) : WX := fun cls d _ H => E cls d H
section
variable {P : Program} {w : World} {K : PySem.W.Frag} {mg : Str → Option Value} {base : Heap}
theorem fn_body {b0 : Bool} {x qual : Str} {st : Stmt} {f : Addr} {fd : FuncData} {N ps : List Str} {k : Nat} {b : Env → MS} (F : Fun K x qual st f fd) (S : FnScope N ps (defScope st))
    (hbody : ∀ (cd : Value) (A : Around) (outer : List PySem.Env) (s : Shared) (H : Hp) (E : XK), (∃ o, K.lookup f = some o ∧ o.data = .func fd ∧ fd.code = cd) → (b0 = true → A.guards = some []) → Room k (A.deeper (envOfC qual (defScope st) s.heap.objs.size f cd)) →
      FSs (bodyCx P w K mg base N qual (defScope st) f cd A outer s H E) (WE E) (defBody st) b) : FnG b0 P w K mg base (k + 1) f fd ps (bodyD N.length ps.length b) := by
  obtain ⟨oc, od, kV, doc, pm, an, cd, ct, osl, rfl, lk, hcd⟩ := F.ex
  have hlen : ∀ vs H Q E, spF K mg (bodyD N.length ps.length b) vs H Q E → vs.length = ps.length := fun vs H Q E ⟨F', ad, S', ds, _, dp, h⟩ => by
    by_cases e : ds.length = ps.length
    · rw [← e, dp.length]
    · simp only [bodyD, if_neg e] at h
  refine ⟨hlen, fun A outer s H args us vs Q E hG room env0 bind rv want => ?_⟩
  have inK : K.In s.heap := env0.mod.kin.keeps fun c o z => (env0.bs c o z).1
  have noLim : s.heap.NoLimit := env0.mod.nolimit.keeps fun c o z => (env0.bs c o z).1
  have kinds : ∀ y ∈ ps.zip us, (defScope st).names.lookup y.1 = some .local ∨ ((defScope st).names.lookup y.1 = some .cell ∧ ((cellsFrom (s.heap.objs.size + 1) (defScope st).names []).lookup y.1).isSome = true) := by
    rintro ⟨n, v⟩ hy
    cases S.par n (List.of_mem_zip hy).1 with
    | inl z => exact Or.inl z
    | inr z => exact Or.inr ⟨z, PySem.W.cellsFrom_some _ _ _ (Or.inl z)⟩
  have body := hbody cd A outer s H E ⟨_, lk, rfl, rfl⟩ hG (room.deeper _)
  have start_ : tS (bodyCx P w K mg base N qual (defScope st) f cd A outer s H E) (WE E) b { nx := fun _ H' => Q .non H', rt := Q } (L2.start N vs) H := by
    obtain ⟨F', ad, S', ds, rs, dp, h⟩ := want
    refine ⟨F', ad, ent N.length ds, S', re_ent dp, rs, ?_⟩
    by_cases e : ds.length = ps.length
    · simp only [bodyD, if_pos e] at h
      cases q : b (ent N.length ds) S' with
      | no => rw [q] at h; exact h
      | ex x1 env1 S1 => rw [q] at h; exact fun c dd σ' F1 ad1 H1 n1 r1 _ _ er => h c dd F1 ad1 H1 n1 r1 er
      | ok fl S1 =>
        rw [q] at h
        cases fl with
        | rt d => exact h
        | nx env1 => exact fun σ' F1 ad1 H1 n1 r1 _ _ => h .non F1 ad1 H1 n1 r1 rfl
        | bk env1 => exact h.elim
        | ct env1 => exact h.elim
    · simp only [bodyD, if_neg e] at h
  refine codeAny_call_function room.depth (inK _ _ lk) rfl S.co S.gen rfl (PySem.W.codeRec_of inK hcd) (bind _ _ _ _ (wpAny_newFunctionEnv_cells S.kind kinds fun env he s1 x => ?_))
  subst he
  have I0 : Inv (bodyCx P w K mg base N qual (defScope st) f cd A outer s H E) [] (L2.start N vs) H s1 := inv_start S room.hd env0 (hlen _ _ _ _ want) rv x
  refine ⟨noLim.keeps x.toInCall.keep, codeAny_func (wpAny_mono (body.run.run [] s1 _ H _ I0 start_) (fun fl s' out => ?_) fun _ _ z => z)⟩
  cases fl with
  | brk => obtain ⟨_, _, _, z⟩ := out; exact z.elim
  | cont => obtain ⟨_, _, _, z⟩ := out; exact z.elim
  | next =>
    obtain ⟨σ', H', J, z⟩ := out
    exact (⟨V.non, H', J.os, J.bare, J.base, J.hok, rfl, z⟩ : CE outer P w H s Q Value.none s')
  | ret u =>
    obtain ⟨v, σ', H', J, ru, z⟩ := out
    exact (⟨v, H', J.os, J.bare, J.base, J.hok, ru, z⟩ : CE outer P w H s Q u s')
end
/-! ### the call of a def -/
section
variable {X : Cx} {W : WX} {k : Nat} {fa : Addr} {fd : FuncData} {ps : List Str} {g : List D → M D} {x : Str} {pos p : Pos} {e : Expr} {es : List Expr} {t : Env → M (List D)}
theorem fin_sp {σ : L2.St} {F ad S H} {ds : List D} {vs : List V} {Q : VK} (rs : RS X.K F ad S H) (dp : DPs X.K F ad S.length ds vs) (h : Fin X W (DP X.K) σ F ad S H (g ds S) Q) : spF X.K X.mg g vs H Q (fun cls dd H' => W cls dd σ H') := by
  refine ⟨F, ad, S, ds, rs, dp, ?_⟩
  cases q : g ds S with
  | no => rw [q] at h; exact h
  | ok d S1 => rw [q] at h; exact h
  | ex x1 S1 => rw [q] at h; exact h
theorem run_call {b0 : Bool} {pins : List (Addr × Obj)} {σ : L2.St} {H : Hp} {s : Shared} {Q : VK} {us : List Value} {vs : List V} (G : FnG b0 X.prog X.w X.K X.mg X.base k fa fd ps g) (hG : b0 = true → X.A.guards = some []) (hr : Room k X.A) (hb : Binds X.K fd ps []) (tk : Takes X W)
    (I : Inv X pins σ H s) (r : Vals vs us) (h : spF X.K X.mg g vs H Q (fun cls dd H' => W cls dd σ H')) : wpAny (model X.prog X.w) X.A (call (.ref fa) us) (EP X pins σ Q) X.xe s := by
  have hl : us.length = ps.length := by rw [← r.length]; exact G.len _ _ _ _ h
  have bind := hb s us I.kIn (by rw [List.append_nil]; exact hl)
  rw [List.append_nil] at bind
  refine wpAny_call (codeAny_mono (G.run X.A X.stack s H ⟨us, []⟩ us vs Q _ hG hr I.env0 bind r h) fun res s' out => ?_)
  match res, out with
  | .error z, out => exact tk z s' (XE.of_call I (fun _ _ _ q => q) out)
  | .ok (.ret u), out => exact I.after out
theorem fe_call {b0 : Bool} (G : FnG b0 X.prog X.w X.K X.mg X.base k fa fd ps g) (hG : b0 = true → X.A.guards = some []) (hr : Room k X.A) (hg : Gl X x) (hm : X.mg x = some (.ref fa)) (hk : PySem.W.keepIn X.K (.ref fa) = true) (hb : Binds X.K fd ps []) (tk : Takes X W)
    (ha : FA X W (e :: es) t) (hdb : (x == ("__debug__" : Str)) = false := by decide) (he : starEach (e :: es) X.env = (false, eval e X.env) :: starEach es X.env := by rfl) (hpl : (backTo pos (starEach es X.env)).any (·.1) = false := by rfl) :
    FE X W (.Call (.Name x p) (e :: es) [] pos) (cal t g) := by
  refine ⟨⟨fun pins s σ H Q I ⟨F, ad, env, S, re, rs, h⟩ => ?_⟩⟩
  have args : tL X W t σ H (fun vs H1 => spF X.K X.mg g vs H1 Q fun cls dd H' => W cls dd σ H') := ⟨F, ad, env, S, re, rs, Fin.seq re h fun F1 ad1 S1 ds vs H1 n1 re1 rs1 dp1 h1 => fin_sp rs1 dp1 h1⟩
  exact wpAny_Call_Name_kw (ld_glob I hg hm (PySem.W.callWith_K (h₀ := X.base) I.ok.mod.kin hk (thn (ha.run.run pos pins s σ H _ I args) fun us s1 ⟨vs, H1, I1, r, q⟩ => ⟨I1.kIn, run_call G hG hr hb tk I1 r q⟩) he hpl) hdb)
theorem fe_call0 {b0 : Bool} (G : FnG b0 X.prog X.w X.K X.mg X.base k fa fd ps g) (hG : b0 = true → X.A.guards = some []) (hr : Room k X.A) (hg : Gl X x) (hm : X.mg x = some (.ref fa)) (hk : PySem.W.keepIn X.K (.ref fa) = true) (hb : Binds X.K fd ps []) (tk : Takes X W)
    (hdb : (x == ("__debug__" : Str)) = false := by decide) : FE X W (.Call (.Name x p) [] [] pos) (fun _ => g []) := by
  refine ⟨⟨fun pins s σ H Q I ⟨F, ad, env, S, re, rs, h⟩ => ?_⟩⟩
  exact wpAny_Call_Name_kw (ld_glob I hg hm (PySem.W.callWith_K0 I.kIn hk (run_call (us := []) G hG hr hb tk I .nil (fin_sp rs (show DPs X.K F ad S.length [] [] from rfl) h))) hdb)
/-- nothing may be let out within a comprehension -/
theorem tk0 : Takes X W0 := takes0
end
/-! ### plain again -/
section
variable {X : Cx} {W : WX} {sts : List Stmt} {b : Env → MS}
def frzV (i : Nat) (b : Env → MS) : Env → MS := fun env S => match env[i]? with
  | some (some (.obj n)) => match S[n]? with
    | some (some (.lst xs)) => b (env.set i (some (.lst xs))) (S.set n none)
    | _ => .no
  | _ => .no
theorem fss_frz (i : Nat) (h : FSs X W sts b) : FSs X W sts (frzV i b) := by
  refine ⟨PSs.weakI h.run fun D σ H hl ⟨F, ad, env, S, re, rs, hf⟩ => ?_⟩
  unfold frzV at hf
  split at hf
  · rename_i n e1
    split at hf
    · rename_i xs e2
      obtain ⟨v, e3, hn, ev⟩ := re i _ e1
      obtain ⟨h1, o, h2, vs, h3, h4⟩ := rs.liv n _ e2
      subst h3 ev
      have g : Gr F ad S.length (upd F (ad n) (.lst vs)) ad S.length := Gr.alloc h1
      refine ⟨upd F (ad n) (.lst vs), ad, env.set i (some (.lst xs)), S.set n none, fun j d q => ?_, rs.frz e2 h2, FinS.from (Nx.frz rs e2) hf⟩
      rw [List.length_set]
      by_cases hj : i = j
      · subst hj
        rw [List.getElem?_set_self (lt_of_some e1)] at q
        cases q
        exact ⟨_, e3, ad n, vs, rfl, upd_same, DPs.mono g _ _ h4⟩
      · rw [List.getElem?_set_ne hj] at q
        obtain ⟨w, q1, q2⟩ := re j d q
        exact ⟨w, q1, DP.mono g d w q2⟩
    · exact hf.elim
  · exact hf.elim
end
end Fx

end
/-! ## Fx10 -/
section
namespace Fx
open PySem PySem.Spec PyProof.Rows L2
variable [tb : Tabl]

/-! ### keywords alone: f(k = e, ..) -/
def pk {α : Type} (ix : List Nat) (l : List α) : List α := ix.filterMap fun i => l[i]?
theorem DPs.pk {K F ad L} {ds : List D} {vs : List V} (h : DPs K F ad L ds vs) (ix : List Nat) : DPs K F ad L (Fx.pk ix ds) (Fx.pk ix vs) := h.fm ix
theorem vals_pk {vs : List V} {us : List Value} (h : Vals vs us) (ix : List Nat) : Vals (Fx.pk ix vs) (Fx.pk ix us) := vals_fm h ix
def KB (K : PySem.W.Frag) (fd : FuncData) (ps ks : List Str) (ix : List Nat) : Prop := ∀ (s : Shared) (ws : List Value), K.In s.heap → ws.length = ks.length → BindsTo s fd ⟨[], ks.zip ws⟩ (ps.zip (Fx.pk ix ws))
section
variable {X : Cx} {W : WX} {k : Nat} {fa : Addr} {fd : FuncData} {ps ks : List Str} {g : List D → M D} {x : Str} {pos p : Pos} {e : Expr} {es : List Expr} {f : Env → M D} {t : Env → M (List D)} {kws : List Keyword} {ix : List Nat}
structure FK (X : Cx) (W : WX) (kws : List Keyword) (t : Env → M (List D)) : Prop where
  run : PK X kws (tL X W t)
theorem fk_nil : FK X W [] (fun _ => pur []) := ⟨⟨fun pos pins s σ H Q I ⟨F, ad, env, S, re, rs, h⟩ => pk_nil.run pos pins s σ H Q I (Fin.pure rs h rfl)⟩⟩
theorem fk_cons {nm : Option Str} {kp : Pos} (he : FE X W e f) (hr : FK X W kws t) : FK X W (⟨nm, e, kp⟩ :: kws) (cns f t) := by
  refine ⟨⟨fun pos pins s σ H Q I ⟨F, ad, env, S, re, rs, h⟩ => (pk_cons he.run hr.run).run pos pins s σ H Q I ?_⟩⟩
  refine ⟨F, ad, env, S, re, rs, Fin.seq re h fun F1 ad1 S1 d v H1 n1 re1 rs1 dp1 h1 => ⟨F1, ad1, env, S1, re1, rs1, Fin.seq re1 h1 fun F2 ad2 S2 ds vs H2 n2 re2 rs2 dp2 h2 => ?_⟩⟩
  exact Fin.pure (v := v :: vs) rs2 h2 ⟨v, vs, rfl, DP.mono n2.gr d v dp1, dp2⟩
def calK (n : Nat) (ix : List Nat) (t : Env → M (List D)) (g : List D → M D) : Env → M D := fun env => bd (t env) fun ds => if ds.length = n then g (Fx.pk ix ds) else mno
theorem fe_callK0 {b0 : Bool} (G : FnG b0 X.prog X.w X.K X.mg X.base k fa fd ps g) (hG : b0 = true → X.A.guards = some []) (hr : Room k X.A) (hg : Gl X x) (hm : X.mg x = some (.ref fa)) (hk : PySem.W.keepIn X.K (.ref fa) = true) (hb : KB X.K fd ps ks ix) (tk : Takes X W)
    (ha : FK X W kws t) (hall : (backToKw pos (keywordEach kws X.env)).all (·.1.isSome) = true := by rfl) (hks : (backToKw pos (keywordEach kws X.env)).filterMap (·.1) = ks := by rfl) (hdb : (x == ("__debug__" : Str)) = false := by decide)
    (hpl : ((backTo pos (starEach [] X.env)).any (·.1) || (backToKw pos (keywordEach kws X.env)).any (·.1.isNone)) = false := by rfl) :
    FE X W (.Call (.Name x p) [] kws pos) (calK ks.length ix t g) := by
  refine ⟨⟨fun pins s σ H Q I ⟨F, ad, env, S, re, rs, h⟩ => ?_⟩⟩
  have args : tL X W t σ H (fun vs H1 => vs.length = ks.length ∧ spF X.K X.mg g (Fx.pk ix vs) H1 Q fun cls dd H' => W cls dd σ H') := ⟨F, ad, env, S, re, rs, Fin.seq re h fun F1 ad1 S1 ds vs H1 n1 re1 rs1 dp1 h1 => by
    split at h1
    · rename_i c
      exact ⟨by rw [← dp1.length]; exact c, fin_sp rs1 (dp1.pk ix) h1⟩
    · exact h1.elim⟩
  refine wpAny_Call_Name_kw (ld_glob I hg hm (PySem.W.callWith_KW0 (h₀ := X.base) I.ok.mod.kin hk hall (thn (ha.run.run pos pins s σ H _ I args) fun ws s1 ⟨vs, H1, I1, r, hl, q⟩ => ⟨I1.kIn, ?_⟩) hpl) hdb)
  rw [hks]
  refine wpAny_call (codeAny_mono (G.run X.A X.stack s1 H1 ⟨[], ks.zip ws⟩ (Fx.pk ix ws) (Fx.pk ix vs) Q _ hG hr I1.env0 (hb s1 ws I1.kIn (by rw [← r.length]; exact hl)) (vals_pk r ix) q) fun res s' out => ?_)
  match res, out with
  | .error z, out => exact tk z s' (XE.of_call I1 (fun _ _ _ q => q) out)
  | .ok (.ret u), out => exact I1.after out
end

/-! ### the law at its end -/
/-- the start of a law: the script stands at a, the empty tables at ts; H tracks nothing else -/
structure Start (h : Heap) (a : Addr) (vs : List Value) (ts : List Addr) (H : Hp) : Prop where
  scr : h.get? a = some { cls := .type "list", data := .seq vs.toArray }
  tab : ∀ b ∈ ts, h.get? b = some { cls := .none, data := .fields #[] }
  tr : ∀ b, H b ≠ none → b = a ∨ b ∈ ts
  tbl : ∀ b ∈ ts, H b = some (.tbl #[])
  lst : ∀ u, H a = some u → ∃ o xs, u = .frz o (.lst xs)
theorem Start.notTab {h a vs ts H} (x : Start h a vs ts H) : a ∉ ts := fun z => by
  have q := x.tab a z
  rw [x.scr] at q
  injection q with q
  injection q with _ _ q
  cases q
/-- what is neither a list nor an empty record is not tracked -/
theorem Start.free {h a vs ts H} (x : Start h a vs ts H) {b : Addr} {o : Obj} (e : h.get? b = some o) (nl : ∀ (ws : Array Value) (n : Nat), o.data = .seq ws n → False) (nf : o.data = .fields #[] → False) : H b = none := by
  cases q : H b with
  | none => rfl
  | some u =>
    rcases x.tr b (fun z => by rw [q] at z; cases z) with rfl | m
    · rw [x.scr] at e; cases e; exact (nl _ _ rfl).elim
    · rw [x.tab b m] at e; cases e; exact (nf rfl).elim
theorem Start.sees {h a vs ts H} (x : Start h a vs ts H) {b : Addr} {o : Obj} (e : h.get? b = some o) (nl : ∀ (ws : Array Value) (n : Nat), o.data = .seq ws n → False) (nf : o.data = .fields #[] → False) : (hidT h H).get? b = some o :=
  hidT_get e (x.free e nl nf)
theorem Start.ns {h a vs ts H} (x : Start h a vs ts H) {b : Addr} {m : Str → Option Value} (n : h.Ns b m) : (hidT h H).Ns b m := by
  obtain ⟨o, es, ep, e, d, r⟩ := n
  exact ⟨o, es, ep, x.sees e (fun _ _ z => by rw [d] at z; cases z) (fun z => by rw [d] at z; cases z), d, r⟩
theorem Start.kin {h a vs ts H} {K : PySem.W.Frag} (x : Start h a vs ts H) (inK : K.In h) (ka : H a ≠ none → K.lookup a = none) (kt : ∀ b ∈ ts, K.lookup b = none) : K.In (hidT h H) := fun b o e => by
  refine hidT_get (inK b o e) ?_
  cases q : H b with
  | none => rfl
  | some u =>
    have nn : H b ≠ none := fun z => by rw [q] at z; cases z
    rcases x.tr b nn with rfl | m
    · rw [ka nn] at e; cases e
    · rw [kt b m] at e; cases e
theorem Start.tabB {h a vs ts H} {mg : Str → Option Value} {c t : Addr} (x : Start h a vs ts H) (ht : t ∈ ts) (C : PySem.W.CodeHd h c t) (hmg : h.Ns mainGlobals mg)
    (bm : ∃ (m : Addr) (om : Obj), mg "__builtins__" = some (.ref m) ∧ m ≠ builtinsNs ∧ h.get? m = some om ∧ om.cls = .type "module" ∧ om.dict = some builtinsNs ∧ om.data = .plain) : LamX.TabB (hidT h H) mg c t := by
  obtain ⟨m, om, m1, m2, m3, m4, m5, m6⟩ := bm
  obtain ⟨og, es, ep, g1, g2, g3⟩ := hmg
  constructor
  · obtain ⟨oc, us, f1, f2, f3, f4, f5, f6, f7, q1, q2, q3, q4, q5⟩ := C
    refine ⟨oc, us, f1, f2, f3, f4, f5, f6, f7, x.sees q1 (fun _ _ z => by rw [q3] at z; cases z) (fun z => ?_), q2, q3, q4, q5⟩
    rw [q3] at z
    cases z
    simp at q4
  · refine ⟨m, om, m1, m2, fun z => ?_, fun z => ?_, x.sees m3 (fun _ _ z => by rw [m6] at z; cases z) (fun z => by rw [m6] at z; cases z), m4, m5, m6⟩
    · rw [z, g1] at m3; cases m3; rw [g2] at m6; cases m6
    · rw [z, x.tab t ht] at m3; cases m3; cases m6
  · intro z
    rw [z, x.tab t ht] at g1
    cases g1; cases g2
theorem law_run {P : Program} {w : World} {K : PySem.W.Frag} {mg mb : Str → Option Value} {k : Nat} {fa a : Addr} {cs : List (Addr × Addr)} {fd : FuncData} {x : Str} {g : List D → M D} {s1 : Shared} {vs : List Value} {ns : List Int}
    (inK : K.In s1.heap) (hmg : s1.heap.Ns mainGlobals mg) (hmb : s1.heap.Ns builtinsNs mb) (boot : ∀ y : Str, y ≠ "__name__" → mb y = bootBuiltins y) (lim : s1.heap.NoLimit) (gens : s1.gens = #[])
    (tE : ∀ p ∈ cs, s1.heap.get? p.2 = some { cls := .none, data := .fields #[] }) (tK : ∀ p ∈ cs, K.lookup p.2 = none) (tC : ∀ p ∈ cs, PySem.W.CodeHd s1.heap p.1 p.2)
    (bm : ∃ (m : Addr) (om : Obj), mg "__builtins__" = some (.ref m) ∧ m ≠ builtinsNs ∧ s1.heap.get? m = some om ∧ om.cls = .type "module" ∧ om.dict = some builtinsNs ∧ om.data = .plain)
    (ha : s1.heap.get? a = some { cls := .type "list", data := .seq vs.toArray }) (hi : IntsAre vs ns) (hz : ns.length ≤ sizeLine) (room : Room k callerA) (tT : ∀ p ∈ tb.T, p.1 ∈ cs.map (·.2))
    (G : ∀ base : Heap, K.In base → base.Ns mainGlobals mg → (∀ p ∈ cs, LamX.TabB base mg p.1 p.2) → FnG true P w K mg base k fa fd [x] g) (bind : ∀ (s : Shared) (u : Value), BindsTo s fd ⟨[u], []⟩ [(x, u)]) (yes : ∃ S', g [.scr ns] [] = .ok (.bl true) S') :
    codeAny (model P w) callerA (.call (.ref fa) ⟨[.ref a], []⟩) (fun r s' => r = .ok (.ret (.bool true)) ∧ OldK s1.heap s'.heap ∧ s'.os = s1.os ∧ AllBare s'.gens) s1 := by
  have hv : Vals (ns.map V.int) vs := vals_ints hi
  have hlv := hi.length
  have mem : ∀ p ∈ cs, p.2 ∈ cs.map (·.2) := fun p hp => List.mem_map.mpr ⟨p, hp, rfl⟩
  have emp : ∀ b ∈ cs.map (·.2), s1.heap.get? b = some { cls := .none, data := .fields #[] } ∧ K.lookup b = none ∧ ∃ c, PySem.W.CodeHd s1.heap c b := fun b hb => by
    obtain ⟨p, hp, rfl⟩ := List.mem_map.mp hb
    exact ⟨tE p hp, tK p hp, p.1, tC p hp⟩
  have main : ∀ H : Hp, Start s1.heap a vs (cs.map (·.2)) H → SqL K H a (ns.map V.int) → HOk P w H s1.heap → (H a ≠ none → K.lookup a = none) →
      codeAny (model P w) callerA (.call (.ref fa) ⟨[.ref a], []⟩) (fun r s' => r = .ok (.ret (.bool true)) ∧ OldK s1.heap s'.heap ∧ s'.os = s1.os ∧ AllBare s'.gens) s1 := by
    intro H Z sq hok ka
    have inB : K.In (hidT s1.heap H) := Z.kin inK ka fun b hb => (emp b hb).2.1
    have mod : Mod K mg (hidT s1.heap H) := ⟨inB, Z.ns hmg, ⟨mb, Z.ns hmb, boot⟩, by obtain ⟨m, h1, h2⟩ := lim; exact ⟨m, Z.ns h1, h2⟩⟩
    have env0 : Env0 P w K mg (hidT s1.heap H) callerA [] s1 H := ⟨rfl, mod, fun b o z => of_hidT z, Nat.le_of_eq (hidT_size _ _), trivial, fun b z => absurd z (by unfold frs; simp), hok, .of_eq gens⟩
    have want : spF K mg g [.ref a] H (fun v _ => v = .bl true) (fun _ _ _ => False) := by
      obtain ⟨S', hS⟩ := yes
      refine ⟨fun b => if b = a then H a else none, fun _ => 0, [], [.scr ns], ⟨fun b u z => ?_, fun n od z => by simp at z, fun n m od od' z => by simp at z, fun p hp => ?_, fun b ps z => ?_⟩, ⟨.ref a, [], rfl, ⟨a, rfl, ?_⟩, rfl⟩, ?_⟩
      · by_cases e : b = a
        · subst e; rw [if_pos rfl] at z; exact z
        · rw [if_neg e] at z; cases z
      · exact LamX.TabS.nil (Z.tbl _ (tT p hp))
      · by_cases e : b = a
        · subst e
          rw [if_pos rfl] at z
          obtain ⟨o, xs, q⟩ := Z.lst _ z
          cases q
        · rw [if_neg e] at z; cases z
      · rcases sq with (q | ⟨o, q⟩) | q
        · exact .inl (.inl ((if_pos rfl).trans q))
        · exact .inl (.inr ⟨o, (if_pos rfl).trans q⟩)
        · exact .inr q
      · rw [hS]
        exact fun v F' ad' H' _ _ d => d
    refine codeAny_mono ((G _ inB (Z.ns hmg) fun p hp => Z.tabB (mem p hp) (tC p hp) hmg bm).run callerA [] s1 H ⟨[.ref a], []⟩ [.ref a] [.ref a] _ _ (fun _ => rfl) room env0 (bind s1 (.ref a)) (.cons rfl .nil) want) fun r s' out => ?_
    match r, out with
    | .error e, ⟨_, _, _, _, _, _, _, _, _, _, _, _, z⟩ => exact z.elim
    | .ok (.ret u), ⟨v, H', os, bare, un, hok', rv, q⟩ =>
      have q : v = .bl true := q
      subst q
      have rv : u = Value.bool true := rv
      subst rv
      have stay : ∀ b o, b ∉ cs.map (·.2) → s1.heap.get? b = some o → s'.heap.get? b = some o := fun b o nb z => by
        cases qb : H b with
        | none => exact un.keep b o z qb (by unfold frs; simp) (by simp)
        | some u =>
          rcases Z.tr b (fun y => by rw [qb] at y; cases y) with rfl | m
          · obtain ⟨ob, ys, rfl⟩ := Z.lst u qb
            obtain ⟨e1, _⟩ := hok b _ qb
            obtain ⟨e2, _⟩ := hok' b _ (un.frzs b ob _ qb)
            rw [z] at e1; cases e1
            exact e2
          · exact absurd m nb
      have grow : ∀ b ∈ cs.map (·.2), ∃ more : Array Value, s'.heap.get? b = some { cls := .none, data := .fields more } := fun b hb => by
        obtain ⟨more, z⟩ := un.tbls b #[] (Z.tbl b hb)
        exact ⟨_, hok' b _ z⟩
      refine ⟨rfl, ⟨fun b o z => ?_, fun b o z => ?_⟩, os, bare⟩
      · by_cases hb : b ∈ cs.map (·.2)
        · obtain ⟨e1, _, c, C⟩ := emp b hb
          obtain ⟨more, hm⟩ := grow b hb
          rw [e1] at z
          cases z
          exact .inr (.inl ⟨(C.tab e1).isCodeTable, rfl, #[], more, rfl, by rw [Array.empty_append]; exact hm⟩)
        · exact .inl (stay b o hb z)
      · by_cases hb : b ∈ cs.map (·.2)
        · obtain ⟨more, hm⟩ := grow b hb
          exact ⟨_, hm⟩
        · exact ⟨o, stay b o hb z⟩
  -- the script is of the written part, or it is tracked
  cases hk : K.lookup a with
  | some o =>
    have z := inK a o hk
    rw [ha] at z
    cases z
    have nt : a ∉ cs.map (·.2) := fun m => by rw [(emp a m).2.1] at hk; cases hk
    let H : Hp := fun b => if b ∈ cs.map (·.2) then some (.tbl #[]) else none
    have no : H a = none := if_neg nt
    refine main H ⟨ha, fun b hb => (emp b hb).1, fun b nb => ?_, fun b hb => if_pos hb, fun u q => by rw [no] at q; cases q⟩ (.inr ⟨_, vs.toArray, _, hk, rfl, rfl, rfl, by rw [List.size_toArray, hlv]; exact hz, by simpa using hv⟩) (fun b u q => ?_) fun y => absurd no y
    · by_cases hb : b ∈ cs.map (·.2)
      · exact .inr hb
      · exact absurd (if_neg hb) nb
    · by_cases hb : b ∈ cs.map (·.2)
      · have : H b = some (.tbl #[]) := if_pos hb
        rw [this] at q; cases q
        exact (emp b hb).1
      · have : H b = none := if_neg hb
        rw [this] at q; cases q
  | none =>
    let o : Obj := { cls := .type "list", data := .seq vs.toArray }
    let H : Hp := fun b => if b = a then some (.frz o (.lst (ns.map V.int))) else if b ∈ cs.map (·.2) then some (.tbl #[]) else none
    have hA : H a = some (.frz o (.lst (ns.map V.int))) := if_pos rfl
    have nt : ∀ b ∈ cs.map (·.2), b ≠ a := fun b hb z => by
      have e := (emp b hb).1
      rw [z, ha] at e
      injection e with e
      injection e with _ _ e
      cases e
    have hB : ∀ b ∈ cs.map (·.2), H b = some (.tbl #[]) := fun b hb => (if_neg (nt b hb)).trans (if_pos hb)
    have hN : ∀ b, b ≠ a → b ∉ cs.map (·.2) → H b = none := fun b h1 h2 => (if_neg h1).trans (if_neg h2)
    refine main H ⟨ha, fun b hb => (emp b hb).1, fun b nb => ?_, hB, fun u q => by rw [hA] at q; cases q; exact ⟨_, _, rfl⟩⟩ (.inl (.inr ⟨o, hA⟩)) (fun b u q => ?_) fun _ => hk
    · by_cases h1 : b = a
      · exact .inl h1
      · by_cases h2 : b ∈ cs.map (·.2)
        · exact .inr h2
        · exact absurd (hN b h1 h2) nb
    · by_cases h1 : b = a
      · subst h1
        rw [hA] at q; cases q
        exact ⟨ha, by rw [List.length_map]; exact hz, vs, _, hv, ha⟩
      · by_cases h2 : b ∈ cs.map (·.2)
        · rw [hB b h2] at q; cases q
          exact (emp b h2).1
        · rw [hN b h1 h2] at q; cases q
end Fx

end
/-! ## Fx11 -/
section
namespace Fx
open PySem PySem.Spec PyProof.Rows L2
variable [tb : Tabl]

omit tb in
theorem tabs_of {p : Program} {loose : List Str} {mean : ExcName → Option Value} {mg mb : Str → Option Value} {h : Heap} {K : PySem.W.Frag} {x : Str} {c t : Addr} (T : Top p loose mean mg mb h) (X : K.In h) (hx : x ∈ (recsOf p).map (·.name)) (ht : PySem.W.tabIn K x = some (c, t)) :
    PySem.W.CodeHd h c t ∧ h.get? t = some { cls := .none, data := .fields #[] } := by
  obtain ⟨d, hd, e⟩ := List.mem_map.mp hx
  have : ((recsOf p).find? (fun e => e.name == x)).isSome = true := by
    rw [List.find?_isSome]
    exact ⟨d, hd, by simp [e]⟩
  obtain ⟨d', hd'⟩ := Option.isSome_iff_exists.mp this
  exact PySem.W.tab_of T X hd' ht
/-- what is known of the law at the head's heap -/
def LawG (l : PySem.W.OpenLaw) (w : World) (K : PySem.W.Frag) (k : Nat) (x : Str) (mg : Str → Option Value) (fa : Addr) (g : List D → M D) (h : Heap) : Prop :=
  ∃ (fd : FuncData) (cs : List (Addr × Addr)) (T : List (Addr × Str)), (∀ p ∈ cs, h.get? p.2 = some { cls := .none, data := .fields #[] }) ∧ (∀ p ∈ cs, K.lookup p.2 = none) ∧ (∀ p ∈ cs, PySem.W.CodeHd h p.1 p.2) ∧ (∀ p ∈ T, p.1 ∈ cs.map (·.2)) ∧ (∀ (s : Shared) (u : Value), BindsTo s fd ⟨[u], []⟩ [(x, u)]) ∧
    ∀ base : Heap, K.In base → base.Ns mainGlobals mg → (∀ p ∈ cs, LamX.TabB base mg p.1 p.2) → @FnG ⟨T⟩ true l.prog w K mg base k fa fd [x] g
omit tb in
theorem law_walk {l : PySem.W.OpenLaw} {q : Program} {loose : List Str} {XP : (Str → Option Value) → Heap → Prop} {YP : World → Heap → Prop} {d : DefRec} {K : Params → PySem.W.Frag} {k : Nat} {x : Str} {g : List D → M D}
    (hn : l.most = some 63) (hdf : d.params.defaults = []) (room : Room k callerA)
    (hY : ∀ (w : World) (h : Heap), YP w h → (K w.params).In h)
    (F : ∀ (w : World) (mg : Str → Option Value) (fa : Addr) (h : Heap), (∀ x c t, PySem.W.tabIn (K w.params) x = some (c, t) → x ∈ (recsOf q).map (·.name) → PySem.W.CodeHd h c t ∧ h.get? t = some { cls := .none, data := .fields #[] }) → (K w.params).In h → h.Ns mainGlobals mg → mg d.name = some (.ref fa) → LawG l w (K w.params) k x mg fa g h)
    (yes : ∀ ns : List Int, ns.length ≤ 63 → (∀ k ∈ ns, Builtin.Int.intBits k ≤ 1048576) → ∃ S', g [.scr ns] [] = .ok (.bl true) S') :
    PySem.W.WalkO q loose XP YP l.row.toRowW d [] (fun f vs => PySem.call f vs) := by
  refine Att.attach_callB hn hdf fun w s₀ s₁ mg mb fa o pm cd doc a vs ns G Y ho hd hcd hmg hobj hints hlen hbits hg => ?_
  have KX := hY w _ Y
  obtain ⟨fd, cs, T, h1, h2, h3, h4, hb, hF⟩ := F w mg fa _ (fun x c t ht hx => tabs_of G.T KX hx ht) KX G.T.g hmg
  exact @law_run ⟨T⟩ _ _ _ _ _ _ _ _ cs _ _ _ _ _ _ KX G.T.g G.T.b G.T.builtins G.T.nolimit hg h1 h2 h3 G.T.bmain hobj hints (Nat.le_trans hlen (by decide)) room h4 hF hb (yes ns hlen hbits)
/-- a law that makes no lambdas -/
theorem lawG0 {l : PySem.W.OpenLaw} {w : World} {K : PySem.W.Frag} {k : Nat} {x : Str} {mg : Str → Option Value} {fa : Addr} {g : List D → M D} {h : Heap}
    (F : ∃ fd : FuncData, (∀ (s : Shared) (u : Value), BindsTo s fd ⟨[u], []⟩ [(x, u)]) ∧ ∀ base : Heap, K.In base → base.Ns mainGlobals mg → @FnG ⟨[]⟩ true l.prog w K mg base k fa fd [x] g) : LawG l w K k x mg fa g h := by
  obtain ⟨fd, hb, hF⟩ := F
  exact ⟨fd, [], [], fun _ z => (nomatch z), fun _ z => (nomatch z), fun _ z => (nomatch z), fun _ z => (nomatch z), hb, fun base a b _ => hF base a b⟩

/-! ### defs at their names -/
/-- the code object of the def x -/
def CodeAt (K : PySem.W.Frag) (mg : Str → Option Value) (x : Str) (cd : Value) : Prop := ∃ (f : Addr) (o : Obj) (fd : FuncData), mg x = some (.ref f) ∧ K.lookup f = some o ∧ o.data = .func fd ∧ fd.code = cd
omit tb in
theorem CodeAt.eq {K mg x c d} (h : CodeAt K mg x c) (k : CodeAt K mg x d) : c = d := by
  obtain ⟨f, o, fd, h1, h2, h3, rfl⟩ := h
  obtain ⟨f', o', fd', k1, k2, k3, rfl⟩ := k
  rw [h1] at k1; cases k1
  rw [h2] at k2; cases k2
  rw [h3] at k3; cases k3
  rfl
structure DefAt (K : PySem.W.Frag) (mg : Str → Option Value) (x : Str) (st : Stmt) (ps : List Str) : Prop where
  ex : ∃ (a : Addr) (fd : FuncData), mg x = some (.ref a) ∧ Fun K x x st a fd ∧ Binds K fd ps []
structure GAt (b0 : Bool) (P : Program) (w : World) (K : PySem.W.Frag) (mg : Str → Option Value) (base : Heap) (k : Nat) (x : Str) (st : Stmt) (ps : List Str) (g : List D → M D) : Prop where
  ex : ∃ (a : Addr) (fd : FuncData), mg x = some (.ref a) ∧ Fun K x x st a fd ∧ Binds K fd ps [] ∧ FnG b0 P w K mg base k a fd ps g
section
variable {P : Program} {w : World} {K : PySem.W.Frag} {mg : Str → Option Value} {base : Heap}
theorem g_at {b0 : Bool} {x : Str} {st : Stmt} {N ps : List Str} {k : Nat} {b : Env → MS} (T : DefAt K mg x st ps) (S : FnScope N ps (defScope st))
    (hbody : ∀ (f : Addr) (cd : Value) (A : Around) (outer : List PySem.Env) (s : Shared) (H : Hp) (E : XK), CodeAt K mg x cd → (b0 = true → A.guards = some []) → Room k (A.deeper (envOfC x (defScope st) s.heap.objs.size f cd)) →
      FSs (bodyCx P w K mg base N x (defScope st) f cd A outer s H E) (WE E) (defBody st) b) : GAt b0 P w K mg base (k + 1) x st ps (bodyD N.length ps.length b) := by
  obtain ⟨a, fd, h1, h2, h3⟩ := T.ex
  exact ⟨a, fd, h1, h2, h3, fn_body h2 S fun cd A outer s H E hc => hbody a cd A outer s H E (by
    obtain ⟨o, e1, e2, e3⟩ := hc
    exact ⟨a, o, fd, h1, e1, e2, e3⟩)⟩
theorem g_no {b0 : Bool} {x : Str} {st : Stmt} {ps : List Str} {k : Nat} (T : DefAt K mg x st ps) : GAt b0 P w K mg base k x st ps (fun _ => mno) := by
  obtain ⟨a, fd, h1, h2, h3⟩ := T.ex
  refine ⟨a, fd, h1, h2, h3, ⟨fun vs H Q E ⟨F', ad, S', ds, _, dp, h⟩ => h.elim, fun A outer s H args us vs Q E hG room env0 bind rv want => ?_⟩⟩
  obtain ⟨F', ad, S', ds, _, dp, h⟩ := want
  exact h.elim
theorem def_mk {x : Str} {st : Stmt} {h : Heap} {f : Addr} {oc : Value} {od an : Option Addr} {osl : Array (Option Value)} {kV doc pm cdv ct : Value} {ps : List Str} (X : K.In h) (G : h.Ns mainGlobals mg)
    (a : PySem.W.nsIn K mainGlobals x = some (some (.ref f))) (l : K.lookup f = some ⟨oc, od, .func (PySem.W.fnOf x x (defArgs st) (defBody st) (defScope st) .none kV doc pm an cdv ct), osl⟩)
    (c : PySem.W.codeIn K cdv x = true) (k : PySem.W.keepIn K (.ref f) = true)
    (hb : ∀ (kV doc pm : Value) (an : Option Addr) (cdv ct : Value) (us : List Value), us.length = ps.length → bindArgs (PySem.W.fnOf x x (defArgs st) (defBody st) (defScope st) .none kV doc pm an cdv ct) ⟨us, []⟩ = pure (ps.zip us)) : DefAt K mg x st ps :=
  ⟨f, _, PySem.W.mg_of X G a, fun_mk l c k, (fun_mk l c k).binds hb⟩
end
section
variable {X : Cx} {W : WX} {k : Nat} {ps ks : List Str} {g : List D → M D} {x : Str} {st : Stmt} {pos p : Pos} {e : Expr} {es : List Expr} {t : Env → M (List D)} {kws : List Keyword} {ix : List Nat}
theorem fe_callD {b0 : Bool} (G : GAt b0 X.prog X.w X.K X.mg X.base k x st ps g) (hG : b0 = true → X.A.guards = some []) (hr : Room k X.A) (hg : Gl X x) (tk : Takes X W)
    (ha : FA X W (e :: es) t) (hdb : (x == ("__debug__" : Str)) = false := by decide) (he : starEach (e :: es) X.env = (false, eval e X.env) :: starEach es X.env := by rfl) (hpl : (backTo pos (starEach es X.env)).any (·.1) = false := by rfl) :
    FE X W (.Call (.Name x p) (e :: es) [] pos) (cal t g) := by
  obtain ⟨a, fd, h1, h2, h3, h4⟩ := G.ex
  exact fe_call h4 hG hr hg h1 h2.kp h3 tk ha hdb he hpl
theorem fe_callD0 {b0 : Bool} (G : GAt b0 X.prog X.w X.K X.mg X.base k x st ps g) (hG : b0 = true → X.A.guards = some []) (hr : Room k X.A) (hg : Gl X x) (tk : Takes X W)
    (hdb : (x == ("__debug__" : Str)) = false := by decide) : FE X W (.Call (.Name x p) [] [] pos) (fun _ => g []) := by
  obtain ⟨a, fd, h1, h2, h3, h4⟩ := G.ex
  exact fe_call0 h4 hG hr hg h1 h2.kp h3 tk hdb
theorem fe_callDK {b0 : Bool} (ks : List Str) (ix : List Nat) (G : GAt b0 X.prog X.w X.K X.mg X.base k x st ps g) (hG : b0 = true → X.A.guards = some []) (hr : Room k X.A) (hg : Gl X x) (tk : Takes X W)
    (hb : ∀ (kV doc pm : Value) (an : Option Addr) (cdv ct : Value) (ws : List Value), ws.length = ks.length → bindArgs (PySem.W.fnOf x x (defArgs st) (defBody st) (defScope st) .none kV doc pm an cdv ct) ⟨[], ks.zip ws⟩ = pure (ps.zip (Fx.pk ix ws)))
    (ha : FK X W kws t) (hall : (backToKw pos (keywordEach kws X.env)).all (·.1.isSome) = true := by rfl) (hks : (backToKw pos (keywordEach kws X.env)).filterMap (·.1) = ks := by rfl) (hdb : (x == ("__debug__" : Str)) = false := by decide)
    (hpl : ((backTo pos (starEach [] X.env)).any (·.1) || (backToKw pos (keywordEach kws X.env)).any (·.1.isNone)) = false := by rfl) :
    FE X W (.Call (.Name x p) [] kws pos) (calK ks.length ix t g) := by
  obtain ⟨a, fd, h1, h2, h3, h4⟩ := G.ex
  refine fe_callK0 (ks := ks) (ix := ix) h4 hG hr hg h1 h2.kp (fun s ws _ hl => ?_) tk ha hall hks hdb hpl
  obtain ⟨oc, od, kV, doc, pm, an, cdv, ct, osl, rfl, lk, hcd⟩ := h2.ex
  exact .of_eq (hb kV doc pm an cdv ct ws hl)
end
theorem fe_globE {X : Cx} {W : WX} {x : Str} {d : D} {v : V} {pos : Pos} (hg : Gl X x) (hm : ∃ u, X.mg x = some u ∧ RelV v u) (hd : ∀ F ad L, DP X.K F ad L d v) (hdb : (x == ("__debug__" : Str)) = false := by decide) : FE X W (.Name x pos) (fun _ => pur d) := by
  obtain ⟨u, h1, h2⟩ := hm
  exact fe_glob hg h1 h2 hd hdb
theorem hu1 {k : Nat} {A : Around} (r : Room k A) : A.units + 1 < cLine := by have := r.un; omega
theorem hu64 {k : Nat} {A : Around} (r : Room k A) : A.units + 64 < cLine := by have := r.un; omega
theorem hu66 {k : Nat} {A : Around} (r : Room k A) : A.units + 66 < cLine := by have := r.un; omega
theorem bo_all : bootBuiltins "all" = some (.builtin "all") := by decide +kernel
theorem bo_any : bootBuiltins "any" = some (.builtin "any") := by decide +kernel
theorem bo_len : bootBuiltins "len" = some (.builtin "len") := by decide +kernel
theorem bo_ord : bootBuiltins "ord" = some (.builtin "ord") := by decide +kernel
theorem bo_repr : bootBuiltins "repr" = some (.builtin "repr") := by decide +kernel
theorem bo_sorted : bootBuiltins "sorted" = some (.builtin "sorted") := by decide +kernel
theorem bo_isinstance : bootBuiltins "isinstance" = some (.builtin "isinstance") := by decide +kernel
theorem bo_int : bootBuiltins "int" = some (.type "int") := by decide +kernel
theorem bo_bool : bootBuiltins "bool" = some (.type "bool") := by decide +kernel
theorem bo_str : bootBuiltins "str" = some (.type "str") := by decide +kernel
theorem bo_list : bootBuiltins "list" = some (.type "list") := by decide +kernel
theorem bo_tuple : bootBuiltins "tuple" = some (.type "tuple") := by decide +kernel
theorem bo_dict : bootBuiltins "dict" = some (.type "dict") := by decide +kernel
end Fx

end
/-! ## Fx12 -/
section
namespace Fx
open PySem PySem.Spec PyProof.Rows L2
variable [tb : Tabl]

/-! ### plain data -/
mutual
def gd (n : Nat) : D → Bool
  | .non | .bl _ => true
  | .int i => decide (i.natAbs ≤ n)
  | .str x => x.cps.all (· < 128)
  | .lst ds | .tup ds => gds n ds
  | .obj _ | .scr _ | .err .. | .utp _ => false
def gds (n : Nat) : List D → Bool
  | [] => true
  | d :: ds => gd n d && gds n ds
end
mutual
def py : D → PyData
  | .non | .obj _ | .scr _ | .err .. | .utp _ => .none
  | .bl b => .bool b
  | .int i => .int i
  | .str x => .str x
  | .lst ds => .list (pys ds)
  | .tup ds => .tuple (pys ds)
def pys : List D → List PyData
  | [] => []
  | d :: ds => py d :: pys ds
end
theorem gds_mem {n : Nat} : ∀ {ds : List D}, gds n ds = true ↔ ∀ d ∈ ds, gd n d = true
  | [] => by simp [gds]
  | d :: ds => by simp [gds, gds_mem (ds := ds)]
mutual
theorem pyD_eq {n : Nat} : ∀ d : D, gd n d = true → pyD d = some (py d)
  | .non, _ => rfl
  | .bl b, _ => rfl
  | .int i, _ => rfl
  | .str x, _ => rfl
  | .lst ds, h => by
    have := pyDs_eq ds (by simpa [gd] using h)
    simp [pyD, py, this]
  | .tup ds, h => by
    have := pyDs_eq ds (by simpa [gd] using h)
    simp [pyD, py, this]
  | .obj _, h => by simp [gd] at h
  | .scr _, h => by simp [gd] at h
  | .err .., h => by simp [gd] at h
  | .utp _, h => by simp [gd] at h
theorem pyDs_eq {n : Nat} : ∀ ds : List D, gds n ds = true → pyDs ds = some (pys ds)
  | [], _ => rfl
  | d :: ds, h => by
    have h : gd n d = true ∧ gds n ds = true := by simpa [gds] using h
    simp [pyDs, pys, pyD_eq d h.1, pyDs_eq ds h.2]
end
mutual
theorem lay_gd {n : Nat} : ∀ d : D, gd n d = true → (py d).canLay0 = true
  | .non, _ => rfl
  | .bl b, _ => rfl
  | .int i, _ => rfl
  | .str x, h => by
    have h : x.cps.all (· < 128) = true := by simpa [gd] using h
    simp only [py, PyData.canLay0, PyData.strOk]
    rw [Array.all_eq_true] at h ⊢
    intro i hi
    have := h i hi
    simp only [decide_eq_true_eq] at this ⊢
    omega
  | .lst ds, h => by
    have := lay_gds ds (by simpa [gd] using h)
    simpa [py, PyData.canLay0] using this
  | .tup ds, h => by
    have := lay_gds ds (by simpa [gd] using h)
    simpa [py, PyData.canLay0] using this
  | .obj _, h => by simp [gd] at h
  | .scr _, h => by simp [gd] at h
  | .err .., h => by simp [gd] at h
  | .utp _, h => by simp [gd] at h
theorem lay_gds {n : Nat} : ∀ ds : List D, gds n ds = true → PyData.canLayAll0 (pys ds) = true
  | [], _ => rfl
  | d :: ds, h => by
    have h : gd n d = true ∧ gds n ds = true := by simpa [gds] using h
    simp [PyData.canLayAll0, pys, lay_gd d h.1, lay_gds ds h.2]
end
mutual
theorem gd_mono {n m : Nat} (hm : n ≤ m) : ∀ d : D, gd n d = true → gd m d = true
  | .non, _ => rfl
  | .bl b, _ => rfl
  | .int i, h => by
    have h : i.natAbs ≤ n := by simpa [gd] using h
    simp only [gd, decide_eq_true_eq]; omega
  | .str x, h => by simpa [gd] using h
  | .lst ds, h => by
    have := gds_mono hm ds (by simpa [gd] using h)
    simpa [gd] using this
  | .tup ds, h => by
    have := gds_mono hm ds (by simpa [gd] using h)
    simpa [gd] using this
  | .obj _, h => by simp [gd] at h
  | .scr _, h => by simp [gd] at h
  | .err .., h => by simp [gd] at h
  | .utp _, h => by simp [gd] at h
theorem gds_mono {n m : Nat} (hm : n ≤ m) : ∀ ds : List D, gds n ds = true → gds m ds = true
  | [], _ => rfl
  | d :: ds, h => by
    have h : gd n d = true ∧ gds n ds = true := by simpa [gds] using h
    simp [gds, gd_mono hm d h.1, gds_mono hm ds h.2]
end
abbrev dep (d : D) : Nat := (py d).depth
abbrev wgt (d : D) : Nat := (py d).weight
def eqP (x y : D) : Bool := PyData.eqv (py x) (py y)
theorem pyM_eq {n : Nat} {d : D} {S : Store} (h : gd n d = true) : pyM d S = .ok (py d) S := by
  have := pyD_eq d h
  cases d <;> first
    | (simp [gd] at h; done)
    | (simp only [pyM, this]; rfl)
theorem shaped_gd {n : Nat} {d : D} (h : gd n d = true) (hd : dep d ≤ 64) : SeqAt.shaped (py d) = true := by
  simp [SeqAt.shaped, lay_gd d h]; exact hd
theorem eqD_eq {n m : Nat} {x y : D} {S : Store} (hx : gd n x = true) (hy : gd m y = true) (dx : dep x ≤ 64) (dy : dep y ≤ 64) : eqD x y S = .ok (.bl (eqP x y)) S := by
  simp only [eqD, bd, pyM_eq hx, pyM_eq hy, shaped_gd hx dx, shaped_gd hy dy, and_self, if_true, pur, eqP]
theorem neD_eq {n m : Nat} {x y : D} {S : Store} (hx : gd n x = true) (hy : gd m y = true) (dx : dep x ≤ 64) (dy : dep y ≤ 64) : neD x y S = .ok (.bl (!eqP x y)) S := by
  simp only [neD, bd, pyM_eq hx, pyM_eq hy, shaped_gd hx dx, shaped_gd hy dy, and_self, if_true, pur, eqP]
theorem depAll_le {k : Nat} : ∀ {ds : List D}, (∀ d ∈ ds, dep d ≤ k) ↔ PyData.depthAll (pys ds) ≤ k
  | [] => by simp [pys, PyData.depthAll]
  | d :: ds => by simp [pys, PyData.depthAll, depAll_le (ds := ds), dep, Nat.max_le]
theorem dep_lst {k : Nat} {ds : List D} (h : ∀ d ∈ ds, dep d ≤ k) : dep (.lst ds) ≤ k + 1 := by
  have := depAll_le.mp h; simp only [dep, py, PyData.depth]; omega
theorem dep_tup {k : Nat} {ds : List D} (h : ∀ d ∈ ds, dep d ≤ k) : dep (.tup ds) ≤ k + 1 := by
  have := depAll_le.mp h; simp only [dep, py, PyData.depth]; omega
theorem eqP_nilL (ds : List D) : eqP (.lst ds) (.lst []) = ds.isEmpty := by cases ds <;> rfl
theorem eqP_nilT (ds : List D) : eqP (.tup ds) (.tup []) = ds.isEmpty := by cases ds <;> rfl
end Fx

end
/-! ## Fx13 -/
section
namespace Fx
open PySem PySem.Spec PyProof.Rows L2
variable [tb : Tabl]
section
variable {X : Cx} {W : WX} {pos p apos : Pos} {e a b c : Expr} {es : List Expr} {f f1 f2 f3 : Env → M D} {t : Env → M (List D)}
/-! ### max, min of two -/
def maxD : List D → M D
  | [.int i, .int j] => pur (.int (if j > i then j else i))
  | _ => mno
def minD : List D → M D
  | [.int i, .int j] => pur (.int (if j < i then j else i))
  | _ => mno
theorem cf_max (hc : X.calm = true) : CallF X (.builtin "max") maxD := by
  refine ⟨_, call_max2 hc, fun W σ F ad S H ds vs Q rs dp h => ?_⟩
  unfold maxD at h
  split at h
  · obtain ⟨v, r, rfl, d1, w, r2, rfl, d2, e3⟩ := dp
    cases d1; cases d2; cases e3
    exact ⟨_, _, rfl, Fin.pure rs h rfl⟩
  · exact h.elim
theorem cf_min (hc : X.calm = true) : CallF X (.builtin "min") minD := by
  refine ⟨_, call_min2 hc, fun W σ F ad S H ds vs Q rs dp h => ?_⟩
  unfold minD at h
  split at h
  · obtain ⟨v, r, rfl, d1, w, r2, rfl, d2, e3⟩ := dp
    cases d1; cases d2; cases e3
    exact ⟨_, _, rfl, Fin.pure rs h rfl⟩
  · exact h.elim
/-! ### d.get(k), d.get(k, x) -/
def get1 (f1 f2 : Env → M D) : Env → M D := fun env => bd (f1 env) fun x => bd (objK x) fun _ => bd (f2 env) fun y => bd (objK x) fun c => bd (opt (keyOf y)) fun k => pur ((valD c.2 k).getD .non)
def get2 (f1 f2 f3 : Env → M D) : Env → M D := fun env => bd (f1 env) fun x => bd (objK x) fun _ => bd (f2 env) fun y => bd (f3 env) fun z => bd (objK x) fun c => bd (opt (keyOf y)) fun k => pur ((valD c.2 k).getD z)
theorem fe_get1 (hu : X.A.units + 1 < cLine) (ho : FE X W a f1) (hi : FE X W b f2) (m : M1 X a "get" apos b pos) : FE X W (.Call (.Attribute a "get" apos) [b] [] pos) (get1 f1 f2) := by
  refine ⟨PE.weak (pe_dget1 hu ho.run hi.run m) fun σ H Q ⟨F, ad, env, S, re, rs, h⟩ => ⟨F, ad, env, S, re, rs, Fin.seq re h fun F1 ad1 S1 x v H1 n1 re1 rs1 dp1 h1 => ?_⟩⟩
  obtain ⟨c0, S2, e0, h1⟩ := Fin.look h1 fun _ _ => objK_ex
  obtain ⟨rfl, q0, vs0, rfl, hH0, dk0⟩ := objK_at rs1 dp1 e0
  refine ⟨ad1 c0.1, rfl, .inl ⟨_, .inl hH0⟩, F1, ad1, env, _, re1, rs1, Fin.seq re1 h1 fun F2 ad2 S2 y w H2 n2 re2 rs2 dp2 h2 => ?_⟩
  obtain ⟨c, S3, e3, h2⟩ := Fin.look h2 fun _ _ => objK_ex
  obtain ⟨rfl, q, vs, ev, hH, dk⟩ := objK_at rs2 (DP.mono n2.gr x _ dp1) e3
  obtain ⟨k, S4, e4, h2⟩ := Fin.look h2 fun _ _ => opt_ex
  obtain ⟨rfl, e5⟩ := opt_ok e4
  have ew := keyOf_V dp2 e5
  subst ew
  have ea : ad1 c0.1 = ad2 c.1 := by injection ev
  rw [ea]
  refine ⟨_, DGet.k hH, ?_⟩
  rcases dk.val (k := k) with ⟨z, z2⟩ | ⟨d, u, e6, e7, d7⟩
  · rw [z] at h2
    rw [z2]
    exact Fin.pure rs2 h2 rfl
  · rw [e6] at h2
    rw [e7]
    exact Fin.pure rs2 h2 d7
theorem fe_get2 (hu : X.A.units + 1 < cLine) (ho : FE X W a f1) (hi : FE X W b f2) (hz : FE X W c f3) (m : M2 X a "get" apos b c pos) : FE X W (.Call (.Attribute a "get" apos) [b, c] [] pos) (get2 f1 f2 f3) := by
  refine ⟨PE.weak (pe_dget2 hu ho.run hi.run hz.run m) fun σ H Q ⟨F, ad, env, S, re, rs, h⟩ => ⟨F, ad, env, S, re, rs, Fin.seq re h fun F1 ad1 S1 x v H1 n1 re1 rs1 dp1 h1 => ?_⟩⟩
  obtain ⟨c0, S2, e0, h1⟩ := Fin.look h1 fun _ _ => objK_ex
  obtain ⟨rfl, q0, vs0, rfl, hH0, dk0⟩ := objK_at rs1 dp1 e0
  refine ⟨ad1 c0.1, rfl, .inl ⟨_, .inl hH0⟩, F1, ad1, env, _, re1, rs1, Fin.seq re1 h1 fun F2 ad2 S2 y w H2 n2 re2 rs2 dp2 h2 => ⟨F2, ad2, env, S2, re2, rs2, Fin.seq re2 h2 fun F3 ad3 S3 z u H3 n3 re3 rs3 dp3 h3 => ?_⟩⟩
  obtain ⟨c, S4, e3, h3⟩ := Fin.look h3 fun _ _ => objK_ex
  obtain ⟨rfl, q, vs, ev, hH, dk⟩ := objK_at rs3 (DP.mono (n2.trans n3).gr x _ dp1) e3
  obtain ⟨k, S5, e4, h3⟩ := Fin.look h3 fun _ _ => opt_ex
  obtain ⟨rfl, e5⟩ := opt_ok e4
  have ew := keyOf_V dp2 e5
  subst ew
  have ea : ad1 c0.1 = ad3 c.1 := by injection ev
  rw [ea]
  refine ⟨_, DGet.k hH, ?_⟩
  rcases dk.val (k := k) with ⟨z1, z2⟩ | ⟨d, u1, e6, e7, d7⟩
  · rw [z1] at h3
    rw [z2]
    exact Fin.pure rs3 h3 dp3
  · rw [e6] at h3
    rw [e7]
    exact Fin.pure rs3 h3 d7
end
/-! ### for x, y in zip(a, b) -/
section
variable {X : Cx} {W : WX}
def pairD (x y : D) : D := .utp [x, y]
def zipM : List D → M (List D)
  | [.lst xs, .lst ys] => pur (List.zipWith pairD xs ys)
  | [.tup xs, .tup ys] => pur (List.zipWith pairD xs ys)
  | _ => mno
def itz (t : Env → M (List D)) : Env → M (List D) := fun env => bd (t env) zipM
theorem pair_new {F ad S H} {x y : D} {u w : V} {T : Addr} (rs : RS X.K F ad S H) (hT : H T = none) (d1 : DP X.K F ad S.length x u) (d2 : DP X.K F ad S.length y w) :
    ∃ F2 ad2, Nx F ad S H F2 ad2 S (upd H T (.tup [u, w])) ∧ RS X.K F2 ad2 S (upd H T (.tup [u, w])) ∧ DP X.K F2 ad2 S.length (pairD x y) (.ref T) :=
  ⟨upd F T (.tup [u, w]), ad, Nx.alloc rs hT, rs.alloc hT, T, [u, w], rfl, .inl (.inl upd_same), DPs.mono (Gr.alloc (F_none rs hT)) [x, y] [u, w] ⟨u, [w], rfl, d1, w, [], rfl, d2, rfl⟩⟩
theorem itOk_zipL {F ad L} {xs ys : List D} {a b : Addr} {us ws : List V} (q1 : SqL X.K F a us) (d1 : DPs X.K F ad L xs us) (q2 : SqL X.K F b ws) (d2 : DPs X.K F ad L ys ws) : ItOk X F ad L (List.zipWith pairD xs ys) (Itz X.K a b) := fun F' ad' S' H' g rs i => by
  have q1' : SqL X.K H' a us := sqL_mono rs.sub (sqL_mono g.f q1)
  have q2' : SqL X.K H' b ws := sqL_mono rs.sub (sqL_mono g.f q2)
  have d1' := DPs.mono g xs us d1
  have d2' := DPs.mono g ys ws d2
  refine ⟨fun d e => ?_, fun hi => ⟨us, ws, q1', q2', ?_⟩⟩
  · rw [List.getElem?_zipWith_eq_some] at e
    obtain ⟨x, y, e1, e2, rfl⟩ := e
    obtain ⟨u, f1, f2⟩ := d1'.at e1
    obtain ⟨w, f3, f4⟩ := d2'.at e2
    refine ⟨⟨us, ws, u, w, q1', q2', f1, f3⟩, fun v H'' ⟨T, x2, y2, ev, hT, eH, k1, k2⟩ => ?_⟩
    have z1 := k1 us q1'
    have z2 := k2 ws q2'
    rw [f1] at z1; rw [f3] at z2
    cases z1; cases z2
    subst ev eH
    exact pair_new rs hT f2 f4
  · rw [List.length_zipWith] at hi
    rw [← d1.length, ← d2.length]; omega
theorem itOk_zipT {F ad L} {xs ys : List D} {a b : Addr} {us ws : List V} (q1 : SqT X.K F a us) (d1 : DPs X.K F ad L xs us) (q2 : SqT X.K F b ws) (d2 : DPs X.K F ad L ys ws) : ItOk X F ad L (List.zipWith pairD xs ys) (RZ.ItzT X.K a b) := fun F' ad' S' H' g rs i => by
  have q1' : SqT X.K H' a us := sqT_mono rs.sub (sqT_mono g.f q1)
  have q2' : SqT X.K H' b ws := sqT_mono rs.sub (sqT_mono g.f q2)
  have d1' := DPs.mono g xs us d1
  have d2' := DPs.mono g ys ws d2
  refine ⟨fun d e => ?_, fun hi => ⟨us, ws, q1', q2', ?_⟩⟩
  · rw [List.getElem?_zipWith_eq_some] at e
    obtain ⟨x, y, e1, e2, rfl⟩ := e
    obtain ⟨u, f1, f2⟩ := d1'.at e1
    obtain ⟨w, f3, f4⟩ := d2'.at e2
    refine ⟨⟨us, ws, u, w, q1', q2', f1, f3⟩, fun v H'' ⟨T, x2, y2, ev, hT, eH, k1, k2⟩ => ?_⟩
    have z1 := k1 us q1'
    have z2 := k2 ws q2'
    rw [f1] at z1; rw [f3] at z2
    cases z1; cases z2
    subst ev eH
    exact pair_new rs hT f2 f4
  · rw [List.length_zipWith] at hi
    rw [← d1.length, ← d2.length]; omega
theorem fi_zip {e e2 : Expr} {t : Env → M (List D)} {p pos tpos : Pos} {elts : List Expr} {kk : Nat} (hg : Gl X "zip") (hm : X.mg "zip" = none) (ha : FA X W [e, e2] t)
    (hs : starEach [e, e2] X.env = (false, eval e X.env) :: starEach [e2] X.env := by rfl) (hpl : (backTo pos (starEach [e2] X.env)).any (·.1) = false := by rfl) :
    FI X W (.Tuple elts kk tpos) (.Call (.Name "zip" p) [e, e2] [] pos) (itz t) := by
  refine ⟨_, RZ.pi_zipA hg hm ha.run hs hpl, fun σ H R F ad env S re rs h => ⟨F, ad, env, S, re, rs, Fin.seq re h fun F1 ad1 S1 ds vs H1 n1 re1 rs1 dp1 h1 => ?_⟩⟩
  unfold zipM at h1
  split at h1
  · obtain ⟨v, r, rfl, ⟨a, us, rfl, f1, f2⟩, w, r2, rfl, ⟨b, ws, rfl, f3, f4⟩, e5⟩ := dp1
    cases e5
    exact ⟨a, b, us, ws, rfl, .inl ⟨SqL.of (rs1.sub _ _ f1), SqL.of (rs1.sub _ _ f3), Fin.pure rs1 h1 (itOk_zipL (SqL.of f1) f2 (SqL.of f3) f4)⟩⟩
  · obtain ⟨v, r, rfl, ⟨a, us, rfl, f1, f2⟩, w, r2, rfl, ⟨b, ws, rfl, f3, f4⟩, e5⟩ := dp1
    cases e5
    exact ⟨a, b, us, ws, rfl, .inr ⟨sqT_mono rs1.sub f1.sq, sqT_mono rs1.sub f3.sq, Fin.pure rs1 h1 (itOk_zipT f1.sq f2 f3.sq f4)⟩⟩
  · exact h1.elim
end
theorem bo_max : bootBuiltins "max" = some (.builtin "max") := by decide +kernel
theorem bo_min : bootBuiltins "min" = some (.builtin "min") := by decide +kernel
end Fx

end
/-! ## Fx14 -/
section
namespace Fx
open PySem PySem.Spec PyProof.Rows L2
variable [tb : Tabl]

/-! ### own exceptions: their making -/
def setter (f : Str) (p1 p2 p3 p4 : Pos) : Stmt := .Assign [.Attribute (.Name "self" p1) f p2] (.Name f p3) p4
def spI1 (K : PySem.W.Frag) (f : Str) : Sp := fun vs H Q _ => ∃ (a C : Addr) (y : V), vs = [.ref a, y] ∧ OexC K C ∧ PySem.W.findIn K (.ref C) f = some none ∧ H a = some (exo a C none) ∧
  ∀ dx, H dx = none → dx ≠ a → Q .non (upd (upd H dx (exd dx [(f, y)])) a (exo a C (some dx)))
def spI2 (K : PySem.W.Frag) (f g : Str) : Sp := fun vs H Q _ => ∃ (a C : Addr) (y z : V), vs = [.ref a, y, z] ∧ OexC K C ∧ PySem.W.findIn K (.ref C) f = some none ∧ PySem.W.findIn K (.ref C) g = some none ∧ H a = some (exo a C none) ∧
  ∀ dx, H dx = none → dx ≠ a → Q .non (upd (upd (upd H dx (exd dx [(f, y)])) a (exo a C (some dx))) dx (exd dx [(g, z), (f, y)]))
section
variable {P : Program} {w : World} {K : PySem.W.Frag} {mg : Str → Option Value} {base : Heap}
theorem vis_par {N ps : List Str} {sc : Scope} (S : FnScope N ps sc) {x : Str} (h : x ∈ ps) : Vis sc x := (S.par x h).elim .inl fun k => .inr (.inl k)
theorem init1 {f q : Str} {st : Stmt} {fI : Addr} {fd : FuncData} {p1 p2 p3 p4 : Pos} (F : Fun K "__init__" q st fI fd) (S : FnScope ["self", f] ["self", f] (defScope st)) (hb : defBody st = [setter f p1 p2 p3 p4])
    (h1 : (f == ("__debug__" : Str)) = false) (h2 : (f == ("__classdict__" : Str)) = false) : FnOk P w K mg base (L2.CX P w) 1 fI fd ["self", f] (spI1 K f) := by
  refine F.okX S (fun vs H Q E ⟨a, C, y, e, _⟩ => by rw [e]; rfl) fun cdv A outer s H vs Q E hr ⟨a, C, y, e, T, hno, ha, k⟩ => ?_
  subst e
  rw [hb]
  have v0 : Vis (defScope st) "self" := vis_par S (by simp)
  have v1 : Vis (defScope st) f := vis_par S (by simp)
  refine ⟨_, pss_one (ps_ost (pe_var (i := 0) rfl v0) (pe_var (i := 1) rfl v1 h1 h2)), ?_⟩
  exact ⟨y, rfl, .ref a, rfl, a, C, rfl, T, hno, .inl ⟨ha, fun dx hd hne => k dx hd hne⟩⟩
theorem init2 {f g q : Str} {st : Stmt} {fI : Addr} {fd : FuncData} {p1 p2 p3 p4 q1 q2 q3 q4 : Pos} (F : Fun K "__init__" q st fI fd) (S : FnScope ["self", f, g] ["self", f, g] (defScope st)) (hb : defBody st = [setter f p1 p2 p3 p4, setter g q1 q2 q3 q4])
    (h1 : (f == ("__debug__" : Str)) = false) (h2 : (f == ("__classdict__" : Str)) = false) (h3 : (g == ("__debug__" : Str)) = false) (h4 : (g == ("__classdict__" : Str)) = false) : FnOk P w K mg base (L2.CX P w) 1 fI fd ["self", f, g] (spI2 K f g) := by
  refine F.okX S (fun vs H Q E ⟨a, C, y, z, e, _⟩ => by rw [e]; rfl) fun cdv A outer s H vs Q E hr ⟨a, C, y, z, e, T, hno, hno2, ha, k⟩ => ?_
  subst e
  rw [hb]
  have v0 : Vis (defScope st) "self" := vis_par S (by simp)
  have v1 : Vis (defScope st) f := vis_par S (by simp)
  have v2 : Vis (defScope st) g := vis_par S (by simp)
  refine ⟨_, pss_cons (ps_ost (pe_var (i := 0) rfl v0) (pe_var (i := 1) rfl v1 h1 h2)) (pss_one (ps_ost (pe_var (i := 0) rfl v0) (pe_var (i := 2) rfl v2 h3 h4))), ?_⟩
  refine ⟨y, rfl, .ref a, rfl, a, C, rfl, T, hno, .inl ⟨ha, fun dx hd hne => ?_⟩⟩
  exact ⟨z, rfl, .ref a, rfl, a, C, rfl, T, hno2, .inr ⟨dx, [(f, y)], upd_same, by rw [upd_ne hne, upd_same], by simp, k dx hd hne⟩⟩
end
/-- what the written part says of the class -/
structure XCls (K : PySem.W.Frag) (mg : Str → Option Value) (x : Str) (C : Addr) : Prop where
  g : mg x = some (.ref C)
  T : OexC K C
structure XAt1 (K : PySem.W.Frag) (mg : Str → Option Value) (x f : Str) : Prop where
  ex : ∃ (C fI : Addr) (fd : FuncData) (q : Str) (st : Stmt) (p1 p2 p3 p4 : Pos), XCls K mg x C ∧ PySem.W.findIn K (.ref C) f = some none ∧ PySem.W.findIn K (.ref C) "__init__" = some (some (.ref fI)) ∧ PySem.W.typeIn K (.ref fI) = some (.type "function") ∧
    Fun K "__init__" q st fI fd ∧ FnScope ["self", f] ["self", f] (defScope st) ∧ defBody st = [setter f p1 p2 p3 p4] ∧ Binds K fd ["self", f] []
structure XAt2 (K : PySem.W.Frag) (mg : Str → Option Value) (x f g : Str) : Prop where
  ex : ∃ (C fI : Addr) (fd : FuncData) (q : Str) (st : Stmt) (p1 p2 p3 p4 q1 q2 q3 q4 : Pos), XCls K mg x C ∧ PySem.W.findIn K (.ref C) f = some none ∧ PySem.W.findIn K (.ref C) g = some none ∧ PySem.W.findIn K (.ref C) "__init__" = some (some (.ref fI)) ∧ PySem.W.typeIn K (.ref fI) = some (.type "function") ∧
    Fun K "__init__" q st fI fd ∧ FnScope ["self", f, g] ["self", f, g] (defScope st) ∧ defBody st = [setter f p1 p2 p3 p4, setter g q1 q2 q3 q4] ∧ Binds K fd ["self", f, g] []
theorem heap_end {H : Hp} {a dx C : Addr} {o : HO} (ha : H a = none) (hne : dx ≠ a) (G : Hp) (h1 : ∀ b, b ≠ dx → b ≠ a → G b = H b) : upd (del G a) dx o = upd H dx o := by
  funext b
  by_cases e : b = dx
  · subst e; rw [upd_same, upd_same]
  · rw [upd_ne e, upd_ne e]
    by_cases e2 : b = a
    · subst e2; rw [del_same, ha]
    · rw [del_ne e2, h1 b e e2]
section
variable {X : Cx} {W : WX} {k : Nat} {x : Str} {p pos pos2 : Pos} {e e2 : Expr} {t : Env → M (List D)}
def rz1 (x : String) (f : Str) (t : Env → M (List D)) : Env → MS := fun env => lft (t env) env fun ds => fun S => match ds with
  | [d] => .ex ⟨x, [(f, d)]⟩ env S
  | _ => .no
def rz2 (x : String) (f g : Str) (t : Env → M (List D)) : Env → MS := fun env => lft (t env) env fun ds => fun S => match ds with
  | [d, d2] => .ex ⟨x, [(g, d2), (f, d)]⟩ env S
  | _ => .no
theorem fs_raise1 {x : String} {f : Str} (T : XAt1 X.K X.mg (Str.ofString x) f) (hc : X.calm = true) (tk : Takes X W) (hr : Room (k + 2) X.A) (hg : Gl X (Str.ofString x)) (ha : FA X W [e] t)
    (h1 : (f == ("__debug__" : Str)) = false := by decide) (h2 : (f == ("__classdict__" : Str)) = false := by decide)
    (hdb : (Str.ofString x == ("__debug__" : Str)) = false := by decide) (he : starEach (e :: []) X.env = (false, eval e X.env) :: starEach [] X.env := by rfl) (hpl : (backTo pos (starEach [] X.env)).any (·.1) = false := by rfl) :
    FS X W (.Raise (some (.Call (.Name (Str.ofString x) p) [e] [] pos)) none pos2) (rz1 x f t) := by
  obtain ⟨C, fI, fd, q, st, p1, p2, p3, p4, T, hno, iC, tI, F, S, hb, B⟩ := T.ex
  refine ⟨PS.weakI (ps_raise hc tk (pmk_oex (dvs := []) T.T iC tI (init1 F S hb h1 h2) (hr.mono (by omega)) B .nil passL hg T.g ha.run hdb he hpl)) fun D σ H hl ⟨F, ad, env, S, re, rs, h⟩ => ⟨F, ad, env, S, re, rs, FinS.seqE re hl h fun F1 ad1 S1 ds vs H1 n1 re1 rs1 dp1 h1 => ?_⟩⟩
  match ds, dp1, h1 with
  | [d], ⟨v, r, e1, d1, e2⟩, h1 =>
    cases e2; subst e1
    refine ⟨by simp, fun a ha => ⟨a, C, v, rfl, T.T, hno, upd_same, fun dx hd hne => ⟨rfl, dx, [(f, v)], upd_same, by rw [upd_ne hne, upd_same], by rw [upd_ne hne] at hd; exact hd, ?_⟩⟩⟩
    have hd' : H1 dx = none := by rw [upd_ne hne] at hd; exact hd
    rw [heap_end (C := C) ha hne _ fun b h1 h2 => by rw [upd_ne h2, upd_ne h1, upd_ne h2]]
    have g : Gr F1 ad1 S1.length (upd F1 dx (.xd [(f, v)])) ad1 S1.length := Gr.alloc (F_none rs1 hd')
    exact h1 _ _ σ _ ad1 _ (Nx.alloc rs1 hd') (rs1.alloc hd') (re1.mono g) hl ⟨C, dx, [(f, v)], T.g, rfl, rfl, upd_same, rfl, v, [], rfl, DP.mono g d v d1, rfl⟩
  | [], _, h1 => exact h1.elim
  | _ :: _ :: _, _, h1 => exact h1.elim
theorem fs_raise2 {x : String} {f g : Str} (T : XAt2 X.K X.mg (Str.ofString x) f g) (hc : X.calm = true) (tk : Takes X W) (hr : Room (k + 2) X.A) (hg : Gl X (Str.ofString x)) (ha : FA X W [e, e2] t)
    (h1 : (f == ("__debug__" : Str)) = false := by decide) (h2 : (f == ("__classdict__" : Str)) = false := by decide) (h3 : (g == ("__debug__" : Str)) = false := by decide) (h4 : (g == ("__classdict__" : Str)) = false := by decide)
    (hdb : (Str.ofString x == ("__debug__" : Str)) = false := by decide) (he : starEach (e :: [e2]) X.env = (false, eval e X.env) :: starEach [e2] X.env := by rfl) (hpl : (backTo pos (starEach [e2] X.env)).any (·.1) = false := by rfl) :
    FS X W (.Raise (some (.Call (.Name (Str.ofString x) p) [e, e2] [] pos)) none pos2) (rz2 x f g t) := by
  obtain ⟨C, fI, fd, q, st, p1, p2, p3, p4, q1, q2, q3, q4, T, hno, hno2, iC, tI, F, S, hb, B⟩ := T.ex
  refine ⟨PS.weakI (ps_raise hc tk (pmk_oex (dvs := []) T.T iC tI (init2 F S hb h1 h2 h3 h4) (hr.mono (by omega)) B .nil passL hg T.g ha.run hdb he hpl)) fun D σ H hl ⟨F, ad, env, S, re, rs, h⟩ => ⟨F, ad, env, S, re, rs, FinS.seqE re hl h fun F1 ad1 S1 ds vs H1 n1 re1 rs1 dp1 h1 => ?_⟩⟩
  match ds, dp1, h1 with
  | [d, d'], ⟨v, r, e1, d1, v', r', e1', d1', e2⟩, h1 =>
    cases e2; subst e1'; subst e1
    refine ⟨by simp, fun a ha => ⟨a, C, v, v', rfl, T.T, hno, hno2, upd_same, fun dx hd hne => ⟨rfl, dx, [(g, v'), (f, v)], by rw [upd_ne (Ne.symm hne), upd_same], upd_same, by rw [upd_ne hne] at hd; exact hd, ?_⟩⟩⟩
    have hd' : H1 dx = none := by rw [upd_ne hne] at hd; exact hd
    rw [heap_end (C := C) ha hne _ fun b h1 h2 => by rw [upd_ne h1, upd_ne h2, upd_ne h1, upd_ne h2]]
    have g1 : Gr F1 ad1 S1.length (upd F1 dx (.xd [(g, v'), (f, v)])) ad1 S1.length := Gr.alloc (F_none rs1 hd')
    exact h1 _ _ σ _ ad1 _ (Nx.alloc rs1 hd') (rs1.alloc hd') (re1.mono g1) hl ⟨C, dx, [(g, v'), (f, v)], T.g, rfl, rfl, upd_same, rfl, v', [v], rfl, DP.mono g1 d' v' d1', v, [], rfl, DP.mono g1 d v d1, rfl⟩
  | [], _, h1 => exact h1.elim
  | [_], _, h1 => exact h1.elim
  | _ :: _ :: _ :: _, _, h1 => exact h1.elim
end

/-! ### their catching -/
/-- an exception of the class x is one of the class y -/
structure SubX (K : PySem.W.Frag) (mg : Str → Option Value) (x : String) (c : Value) (b : Bool) : Prop where
  ex : ∃ C, mg (Str.ofString x) = some (.ref C) ∧ PySem.W.exmOne K (.ref C) c = some b
def noex : RsS → RsS
  | .ex _ _ _ => .no
  | r => r
theorem fin_noex {X : Cx} {W W' : WX} {D : Ends} {F ad S H} {r : RsS} (h : FinS X W D F ad S H (noex r)) : FinS X W' D F ad S H r := by
  cases r with
  | no => exact h
  | ex _ _ _ => exact h.elim
  | ok f S' => cases f <;> exact h
def tryO (tab : List (String × Bool)) (b g : Env → MS) : Env → MS := fun env S => match b env S with
  | .ex e env' S' => match tab.lookup e.cls with
    | some true => noex (g env' S')
    | some false => .ex e env' S'
    | none => .no
  | r => r
section
variable {X : Cx} {W : WX} {x : Str} {c : Value} {body suite : List Stmt} {b₀ : Stmt} {np pos pos' : Pos} {b g : Env → MS}
theorem mem_lk {β : Type} {k : String} {b : β} : ∀ {l : List (String × β)}, l.lookup k = some b → (k, b) ∈ l
  | [], h => by cases h
  | (k', b') :: r, h => by
    simp only [List.lookup] at h
    split at h
    · rename_i q
      cases h
      rw [show k = k' from by simpa using q]; exact List.mem_cons_self
    · exact List.mem_cons_of_mem _ (mem_lk h)
theorem exm_tab {K : PySem.W.Frag} {mg : Str → Option Value} {tab : List (String × Bool)} (ht : ∀ p ∈ tab, SubX K mg p.1 c p.2) {F ad L} {e : Ex} {cls : Value} {dd : Option Addr} {H : Hp} (er : ER K mg F ad L e cls dd H) {r : Bool} (hl : tab.lookup e.cls = some r) : PySem.W.exmOne K cls c = some r := by
  obtain ⟨C, a, fs, h1, rfl, h2, h3, h4, h5⟩ := er
  obtain ⟨C', q1, q2⟩ := (ht _ (mem_lk hl)).ex
  rw [h1] at q1; cases q1
  exact q2
theorem fs_try_only (tab : List (String × Bool)) (ht : ∀ p ∈ tab, SubX X.K X.mg p.1 c p.2) (hs : X.stack = X.env :: X.outer) (hf : X.env.frame = some X.env.locals) (hc : Names X x c) (tk : Takes X W)
    (hb : ∀ (W : WX) (pn : List (Addr × Obj)) (xe : Value → Shared → Prop), Takes (X.tr pn xe) W → PassesOwn (model X.prog X.w) X.A X.env xe → FSs (X.tr pn xe) W body b)
    (hsu : ∀ (a : Addr) (oe : Obj) (pn : List (Addr × Obj)), FSs (X.suite a ((a, oe) :: pn)) W0 (b₀ :: suite) g) :
    FS X W (.Try body [.ExceptHandler (some (.Name x np)) none (b₀ :: suite) pos'] [] [] pos) (tryO tab b g) := by
  refine ⟨PS.weakI (ps_try_only (tb := fun W => tS X W b) (ts := fun _ _ _ => tS X W0 g) hs hf hc tk (fun W pn xe tk hp => (hb W pn xe tk hp).run) (fun a oe cls d pn _ _ => (hsu a oe pn).run)) fun D σ H hl ⟨F, ad, env, S, re, rs, h⟩ => ⟨F, ad, env, S, re, rs, ?_⟩⟩
  simp only [tryO] at h
  cases q : b env S with
  | no => rw [q] at h; exact h
  | ok f S' => rw [q] at h; cases f <;> exact h
  | ex e env' S' =>
    rw [q] at h
    simp only at h
    refine fun cls dd σ' F' ad' H' n r re' l er => ?_
    cases q2 : tab.lookup e.cls with
    | none => rw [q2] at h; exact h.elim
    | some v =>
      rw [q2] at h
      refine ⟨v, exm_tab ht er q2, fun hv a ha => ?_, fun hv => ?_⟩
      · subst hv
        exact ⟨F', ad', env', S', re', r, fin_noex (FinS.from n h)⟩
      · subst hv
        exact h cls dd σ' F' ad' H' n r re' l er
end
end Fx

end
/-! ## Fx15 -/
section
namespace Fx
open PySem PySem.Spec PyProof.Rows L2
variable [tb : Tabl]

/-! ### in an except suite: the error that is held -/
/-- what the written part says of a class whose instances are looked at -/
structure XLook (K : PySem.W.Frag) (mg : Str → Option Value) (x : String) (fs : List Str) : Prop where
  ex : ∃ C, mg (Str.ofString x) = some (.ref C) ∧ XfC K C ∧ L2.ExcC K C ∧ ∀ f ∈ fs, PySem.W.findIn K (.ref C) f = some none
/-- an instance of x is one of y -/
structure KitAt (K : PySem.W.Frag) (mg : Str → Option Value) (x : String) (y : Str) (b : Bool) : Prop where
  ex : ∃ C D, mg (Str.ofString x) = some (.ref C) ∧ mg y = some (.ref D) ∧ PySem.W.kitOne K (.ref C) (.ref D) = some b
section
variable {X : Cx} {a dd C : Addr} {oe : Obj} {pn : List (Addr × Obj)} {i : Nat} {n : Str} {p p2 pos : Pos}
theorem exc_kit {pins : List (Addr × Obj)} {σ : L2.St} {H : Hp} {s : Shared} {fs : List (Str × V)} (I : Inv (X.suite a ((a, oe) :: pn)) pins σ H s) (T : L2.ExcC X.K C) (hz : Zc (.ref C) (some dd) oe) (hf : ∃ vs, oe.data = .fields vs) (ed : H dd = some (.xd fs)) :
    ∃ od, PySem.W.InstAt s.heap a oe C (some od) ∧ PySem.W.KitX X.K (.ref a) (.ref C) (fun h => PySem.W.InstAt h a oe C (some od)) := by
  obtain ⟨ha, _⟩ := I.pin (a, oe) (List.mem_append_left _ List.mem_cons_self)
  obtain ⟨vs, hd⟩ := hf
  have hx : ObjOk X.prog X.w H s.heap dd (.xd fs) := I.hok dd _ ed
  obtain ⟨mA, hns, hr⟩ := hx
  obtain ⟨od, ho, hl⟩ := lookIn_ns hns
  refine ⟨od, ⟨ha, hz.1, by unfold PySem.W.notCls; rw [hd] <;> rfl, by rw [hz.2]; exact ho⟩, PySem.W.kitx_exc ?_ T.hg T.hk T.hs T.ha T.hn T.ht T.hm⟩
  obtain ⟨cd, hc, _⟩ := PySem.W.any_some T.hd
  rw [hc]; rfl
def rIsF (K : PySem.W.Frag) (C a dd : Addr) : List V → Hp → VK → Prop := fun xs H Q => ∃ (c : V) (cv : Value) (b : Bool) (fs : List (Str × V)), xs = [.ref a, c] ∧ ClsV c cv ∧ H dd = some (.xd fs) ∧ PySem.W.kitOne K (.ref C) cv = some b ∧ Q (.bl b) H
theorem call_isF (T : L2.ExcC X.K C) (hz : Zc (.ref C) (some dd) oe) (hf : ∃ vs, oe.data = .fields vs) : CallR (X.suite a ((a, oe) :: pn)) (.builtin "isinstance") (rIsF X.K C a dd) := by
  intro pins s σ H xs us Q I r h
  obtain ⟨c, cv, b, fs, rfl, hcv, ed, e, q⟩ := h
  obtain ⟨u1, u2, rfl, r1, r2⟩ := vals2 r
  have e2 := hcv.eq r2
  subst e2
  cases (show u1 = Value.ref a from r1)
  obtain ⟨od, J, Z⟩ := exc_kit I T hz hf ed
  exact PySem.W.kia_one Z I.kIn J e (fun z => nomatch z) fun tk => ⟨.bl b, H, I.tok tk, rfl, q⟩
def rIsFT (K : PySem.W.Frag) (C a dd : Addr) : List V → Hp → VK → Prop := fun xs H Q => ∃ (tp : Addr) (cs : List V) (us : List Value) (b : Bool) (fs : List (Str × V)), xs = [.ref a, .ref tp] ∧ H tp = some (.tup cs) ∧ Paired ClsV cs us ∧ H dd = some (.xd fs) ∧ PySem.W.kitAny K (.ref C) us = some b ∧ Q (.bl b) H
theorem call_isFT (T : L2.ExcC X.K C) (hz : Zc (.ref C) (some dd) oe) (hf : ∃ vs, oe.data = .fields vs) : CallR (X.suite a ((a, oe) :: pn)) (.builtin "isinstance") (rIsFT X.K C a dd) := by
  intro pins s σ H xs us Q I r h
  obtain ⟨tp, cs, ws, b, fs, rfl, hT, k, ed, e, q⟩ := h
  obtain ⟨u1, u2, rfl, r1, r2⟩ := vals2 r
  cases (show u1 = Value.ref a from r1)
  cases (show u2 = Value.ref tp from r2)
  obtain ⟨od, J, Z⟩ := exc_kit I T hz hf ed
  obtain ⟨_, its, rv, o, h1, h2, m, h3⟩ := (show ObjOk X.prog X.w H s.heap tp (.tup cs) from I.hok tp _ hT)
  have e3 := ClsV.all k rv
  subst e3
  obtain ⟨oc, od', dt, sl⟩ := o
  simp only at h2 h3
  subst h2 h3
  exact PySem.W.kia_tup Z I.kIn J h1 e (fun z => nomatch z) fun tk => ⟨.bl b, H, I.tok tk, rfl, q⟩
/-- isinstance(e, Y) -/
def isE (a dd i : Nat) (r : Option Bool) : Env → M D := fun env => match env[i]? with
  | some (some (.err m dm _ _)) => if m = a ∧ dm = dd then (match r with | some b => pur (.bl b) | none => mno) else mno
  | _ => mno
theorem at_err {K : PySem.W.Frag} {F ad L env σ} {d : D} (re : RE K F ad L env σ) (h : env[i]? = some (some d)) : ∃ v, σ[i]? = some (some v) ∧ DP K F ad L d v := re i d h
theorem Fin.from1 {α β : Type} {X : Cx} {W : WX} {RR : Hp → (Nat → Addr) → Nat → α → β → Prop} {σ : L2.St} {F ad S H F1 ad1 H1} {r : Rs α} {Q : β → Hp → Prop} (n : Nx F ad S H F1 ad1 S H1) (h : Fin X W RR σ F ad S H r Q) : Fin X W RR σ F1 ad1 S H1 r Q := by
  cases r with
  | no => exact h
  | ok d S' => exact fun v F' ad' H' n' => h v F' ad' H' (n.trans n')
  | ex e S' => exact fun c dd F' ad' H' n' => h c dd F' ad' H' (n.trans n')
theorem isE_key {W : WX} {r : Option Bool} : ∀ (F : Hp) (ad : Nat → Addr) (env : Env) (S : Store) (σ : L2.St) (H : Hp) (Q : VK), RE X.K F ad S.length env σ → RS X.K F ad S H → Fin (X.suite a ((a, oe) :: pn)) W (DP X.K) σ F ad S H (isE a dd i r env S) Q →
      ∃ b vs, r = some b ∧ σ[i]? = some (some (.ref a)) ∧ H dd = some (.xd vs) ∧ Q (.bl b) H := fun F ad env S σ H Q re rs h => by
    unfold isE at h
    cases q : env[i]? with
    | none => rw [q] at h; exact h.elim
    | some z =>
      rw [q] at h
      cases z with
      | none => exact h.elim
      | some d =>
        cases d <;> first
          | exact h.elim
          | skip
        rename_i m d0 ns ds
        simp only at h
        by_cases c : m = a ∧ d0 = dd
        · rw [if_pos c] at h
          obtain ⟨rfl, rfl⟩ := c
          cases r with
          | none => exact h.elim
          | some b =>
            obtain ⟨v, s1, ev, vs, f1, f2, f3⟩ := re i _ q
            subst ev
            exact ⟨b, vs, rfl, s1, rs.sub _ _ f1, Fin.pure (X := X.suite m ((m, oe) :: pn)) (d := D.bl b) rs h rfl⟩
        · rw [if_neg c] at h; exact h.elim
theorem fe_isE {x : String} {y : Str} {fs : List Str} {tab : List (String × Bool)} {W : WX} {py : Pos} (L : XLook X.K X.mg x fs) (hx : X.mg (Str.ofString x) = some (.ref C)) (ht : ∀ p ∈ tab, KitAt X.K X.mg p.1 y p.2) (hz : Zc (.ref C) (some dd) oe) (hf : ∃ vs, oe.data = .fields vs)
    (hg : Gl X "isinstance") (hm : X.mg "isinstance" = none) (hgy : Gl X y) (hN : X.N[i]? = some n) (hv : Vis X.env.scope n) (hd : (n == ("__debug__" : Str)) = false := by decide) (hcd : (n == ("__classdict__" : Str)) = false := by decide) (hdy : (y == ("__debug__" : Str)) = false := by decide)
    (he : starEach [Expr.Name n p2, Expr.Name y py] X.env = (false, eval (Expr.Name n p2) X.env) :: starEach [Expr.Name y py] X.env := by rfl) (hpl : (backTo pos (starEach [Expr.Name y py] X.env)).any (·.1) = false := by rfl) :
    FE (X.suite a ((a, oe) :: pn)) W (.Call (.Name "isinstance" p) [.Name n p2, .Name y py] [] pos) (isE a dd i (tab.lookup x)) := by
  obtain ⟨C', e1, xf, ec, _⟩ := L.ex
  rw [hx] at e1; cases e1
  have key := isE_key (X := X) (a := a) (dd := dd) (oe := oe) (pn := pn) (i := i) (W := W) (r := tab.lookup x)
  cases q : tab.lookup x with
  | none =>
    refine ⟨⟨fun pins s σ H Q I ⟨F, ad, env, S, re, rs, h⟩ => ?_⟩⟩
    rw [← q] at h
    obtain ⟨b, _, e, _⟩ := key F ad env S σ H Q re rs h
    rw [q] at e; cases e
  | some b =>
    obtain ⟨C2, D, k1, k2, k3⟩ := (ht _ (mem_lk q)).ex
    rw [hx] at k1; cases k1
    refine ⟨PE.weak (pe_callB (call_isF ec hz hf) hg hm bo_isinstance (pa_cons (pe_var (i := i) hN hv hd hcd) (pa_cons (pe_glob (v := .ref D) hgy k2 rfl hdy) pa_nil)) (he := he) (hpl := hpl)) fun σ H Q ⟨F, ad, env, S, re, rs, h⟩ => ?_⟩
    rw [← q] at h
    obtain ⟨b', vs, e, s1, s2, qq⟩ := key F ad env S σ H Q re rs h
    rw [q] at e; cases e
    exact ⟨.ref a, s1, .ref D, .ref D, b, vs, rfl, .own D, s2, k3, qq⟩
/-- isinstance(e, (Y, ..)) -/
structure KitTAt (K : PySem.W.Frag) (mg : Str → Option Value) (x : String) (ys : List Str) (b : Bool) : Prop where
  ex : ∃ C Ds, mg (Str.ofString x) = some (.ref C) ∧ Paired (fun y D => mg y = some (.ref D)) ys Ds ∧ PySem.W.kitAny K (.ref C) (Ds.map Value.ref) = some b
theorem pa_refs : ∀ {ys : List (Str × Pos)} {Ds : List Addr}, Paired (fun (y : Str) (D : Addr) => X.mg y = some (.ref D)) (ys.map (·.1)) Ds → (∀ y ∈ ys, Gl X y.1 ∧ (y.1 == ("__debug__" : Str)) = false) → PA X (ys.map fun y => Expr.Name y.1 y.2) (fun _ H Q => Q (Ds.map V.ref) H)
  | [], _, .nil, _ => pa_nil
  | y :: ys, _, .cons h k, g => pa_cons (pe_glob (v := .ref _) (g y List.mem_cons_self).1 h rfl (g y List.mem_cons_self).2) (pa_refs k fun z hz => g z (List.mem_cons_of_mem _ hz))
theorem clsV_refs : ∀ Ds : List Addr, Paired ClsV (Ds.map V.ref) (Ds.map Value.ref)
  | [] => .nil
  | D :: Ds => .cons (.own D) (clsV_refs Ds)
theorem fe_isET {x : String} (ys : List (Str × Pos)) {fs : List Str} {tab : List (String × Bool)} {W : WX} {k : Nat} {tp : Pos} (L : XLook X.K X.mg x fs) (hx : X.mg (Str.ofString x) = some (.ref C)) (ht : ∀ p ∈ tab, KitTAt X.K X.mg p.1 (ys.map (·.1)) p.2) (hz : Zc (.ref C) (some dd) oe) (hf : ∃ vs, oe.data = .fields vs)
    (hg : Gl X "isinstance") (hm : X.mg "isinstance" = none) (hgy : ∀ y ∈ ys, Gl X y.1 ∧ (y.1 == ("__debug__" : Str)) = false) (hys : ys.length ≤ 1000) (hN : X.N[i]? = some n) (hv : Vis X.env.scope n) (hd : (n == ("__debug__" : Str)) = false := by decide) (hcd : (n == ("__classdict__" : Str)) = false := by decide)
    (he : starEach [Expr.Name n p2, Expr.Tuple (ys.map fun y => Expr.Name y.1 y.2) k tp] X.env = (false, eval (Expr.Name n p2) X.env) :: starEach [Expr.Tuple (ys.map fun y => Expr.Name y.1 y.2) k tp] X.env := by rfl) (hpl : (backTo pos (starEach [Expr.Tuple (ys.map fun y => Expr.Name y.1 y.2) k tp] X.env)).any (·.1) = false := by rfl) :
    FE (X.suite a ((a, oe) :: pn)) W (.Call (.Name "isinstance" p) [.Name n p2, .Tuple (ys.map fun y => Expr.Name y.1 y.2) k tp] [] pos) (isE a dd i (tab.lookup x)) := by
  obtain ⟨C', e1, xf, ec, _⟩ := L.ex
  rw [hx] at e1; cases e1
  have key := isE_key (X := X) (a := a) (dd := dd) (oe := oe) (pn := pn) (i := i) (W := W) (r := tab.lookup x)
  cases q : tab.lookup x with
  | none =>
    refine ⟨⟨fun pins s σ H Q I ⟨F, ad, env, S, re, rs, h⟩ => ?_⟩⟩
    rw [← q] at h
    obtain ⟨b, _, e, _⟩ := key F ad env S σ H Q re rs h
    rw [q] at e; cases e
  | some b =>
    obtain ⟨C2, Ds, k1, k2, k3⟩ := (ht _ (mem_lk q)).ex
    rw [hx] at k1; cases k1
    refine ⟨PE.weak (pe_callB (call_isFT ec hz hf) hg hm bo_isinstance (pa_cons (pe_var (i := i) hN hv hd hcd) (pa_cons (pe_tup (pa_refs (X := X.suite a ((a, oe) :: pn)) (ys := ys) k2 hgy)) pa_nil)) (he := he) (hpl := hpl)) fun σ H Q ⟨F, ad, env, S, re, rs, h⟩ => ?_⟩
    rw [← q] at h
    have hl : Ds.length ≤ 1000 := by have := k2.length; simp at this; omega
    refine ⟨.ref a, (key F ad env S σ H _ re rs h).choose_spec.choose_spec.2.1, by rw [List.length_map]; exact Nat.le_trans hl (by decide), fun tp htp => ?_⟩
    obtain ⟨b', vs, e, s1, s2, qq⟩ := key (upd F tp (.tup (Ds.map V.ref))) ad env S σ (upd H tp (.tup (Ds.map V.ref))) Q (re.mono (Gr.alloc (F_none rs htp))) (rs.alloc htp) (Fin.from1 (Nx.alloc rs htp) h)
    rw [q] at e; cases e
    exact ⟨tp, Ds.map V.ref, Ds.map Value.ref, b, vs, rfl, upd_same, clsV_refs Ds, s2, k3, qq⟩
/-- e.f -/
def fldE (a dd i : Nat) (f : Str) : Env → M D := fun env => match env[i]? with
  | some (some (.err m dm ns ds)) => if m = a ∧ dm = dd then opt ((ns.zip ds).lookup f) else mno
  | _ => mno
theorem fld_look {K : PySem.W.Frag} {F ad L} {f : Str} {d : D} : ∀ {ns : List Str} {ds : List D} {vs : List (Str × V)}, vs.map (·.1) = ns → DPs K F ad L ds (vs.map (·.2)) → (ns.zip ds).lookup f = some d → ∃ v, vs.lookup f = some v ∧ DP K F ad L d v
  | [], _, _, _, _, h => by simp at h
  | n :: ns, [], _, _, _, h => by simp at h
  | n :: ns, e :: ds, [], h1, _, _ => by simp at h1
  | n :: ns, e :: ds, (m, u) :: vs, h1, ⟨v, r, e1, h2, h3⟩, h => by
    simp only [List.map_cons, List.cons.injEq] at h1 e1
    obtain ⟨rfl, h1⟩ := h1
    obtain ⟨rfl, rfl⟩ := e1
    simp only [List.zip_cons_cons, List.lookup] at h ⊢
    cases q : f == m with
    | true => rw [q] at h; cases h; exact ⟨_, rfl, h2⟩
    | false => rw [q] at h; exact fld_look h1 h3 h
theorem fe_fldE {x : String} {f : Str} {fs : List Str} {W : WX} (L : XLook X.K X.mg x fs) (hx : X.mg (Str.ofString x) = some (.ref C)) (hfs : f ∈ fs) (hz : Zc (.ref C) (some dd) oe) (hf : ∃ vs, oe.data = .fields vs)
    (hN : X.N[i]? = some n) (hv : Vis X.env.scope n) (hd : (n == ("__debug__" : Str)) = false := by decide) (hcd : (n == ("__classdict__" : Str)) = false := by decide)
    (hb : attributeBase (Expr.Name n p2) f X.env (eval (Expr.Name n p2) X.env) = eval (Expr.Name n p2) X.env := by rfl) :
    FE (X.suite a ((a, oe) :: pn)) W (.Attribute (.Name n p2) f pos) (fldE a dd i f) := by
  obtain ⟨C', e1, xf, ec, hno⟩ := L.ex
  rw [hx] at e1; cases e1
  refine ⟨PE.weak (pe_xf xf (hno f hfs) hz hf (pe_var (i := i) hN hv hd hcd) hb) fun σ H Q ⟨F, ad, env, S, re, rs, h⟩ => ?_⟩
  unfold fldE at h
  cases q : env[i]? with
  | none => rw [q] at h; exact h.elim
  | some z =>
    rw [q] at h
    cases z with
    | none => exact h.elim
    | some d =>
      cases d <;> first
        | exact h.elim
        | skip
      rename_i m d0 ns ds
      simp only at h
      by_cases c : m = a ∧ d0 = dd
      · rw [if_pos c] at h
        obtain ⟨rfl, rfl⟩ := c
        cases q2 : (ns.zip ds).lookup f with
        | none => rw [q2] at h; exact h.elim
        | some d =>
          rw [q2] at h
          obtain ⟨v, s1, ev, vs, f1, f2, f3⟩ := re i _ q
          subst ev
          obtain ⟨u, g1, g2⟩ := fld_look f2 f3 q2
          exact ⟨.ref m, s1, rfl, rfl, d0, vs, u, rfl, rs.sub _ _ f1, g1, Fin.pure (X := X.suite m ((m, oe) :: pn)) (d := d) rs h g2⟩
      · rw [if_neg c] at h; exact h.elim
end
end Fx

end
/-! ## Fx16 -/
section
namespace Fx
open PySem PySem.Spec PyProof.Rows L2
variable [tb : Tabl]
/-! ### x(lambda: body), x: try: return ('told', a()) except C as e: suite -/
/-- qf: what the suite makes of the error -/
def heardM (w : Str) (tab : List (String × Bool)) (qf : Ex → M D) (m : M D) : M D := fun S => match m S with
  | .ok d S' => .ok (.tup [.str w, d]) S'
  | .ex e S' => if tab.lookup e.cls = some true then (match qf e S' with
    | .ok d S2 => .ok d S2
    | _ => .no) else .no
  | .no => .no
/-- what is wished of the error -/
def EQ (K : PySem.W.Frag) (mg : Str → Option Value) (tab : List (String × Bool)) (qf : Ex → M D) (Q : VK) : XK := fun cls d H => ∃ F ad S e r S', RS K F ad S H ∧ ER K mg F ad S.length e cls d H ∧ tab.lookup e.cls = some true ∧ qf e S = .ok r S' ∧
  ∀ v F' ad' H', Nx F ad S H F' ad' S' H' → RS K F' ad' S' H' → DP K F' ad' S'.length r v → Q v H'
def THeard (K : PySem.W.Frag) (mg : Str → Option Value) (w : Str) (tab : List (String × Bool)) (qf : Ex → M D) : (XK → Hp → VK → Prop) → Hp → VK → Prop := fun tl H Q => tl (EQ K mg tab qf Q) H fun v H1 => ([.str w, v] : List V).length ≤ sizeLine ∧ ∀ (p : Addr) (o : Obj), H1 p = none → o.dict = none → Q (.ref p) (upd H1 p (.frz o (.tup [.str w, v])))
theorem re_one {K F ad L} {n i : Nat} {d : D} {v : V} {σ : L2.St} (hi : σ[i]? = some (some v)) (hd : DP K F ad L d v) : RE K F ad L ((List.replicate n none).set i (some d)) σ := fun j e h => by
  by_cases c : i = j
  · subst c
    by_cases hl : i < n
    · rw [List.getElem?_set_self (by simpa using hl)] at h; cases h
      exact ⟨v, hi, hd⟩
    · rw [List.getElem?_eq_none (by simpa using hl)] at h; cases h
  · rw [List.getElem?_set_ne c, List.getElem?_replicate] at h
    split at h <;> cases h
theorem rs_ext {K : PySem.W.Frag} {F ad S H H1} (rs : RS K F ad S H) (x : LamX.ExtN H H1) (t : LamX.Tabs tb.T H1) : RS K F ad S H1 :=
  ⟨fun a o e => x a o (rs.sub a o e) fun ps z => rs.ntb a ps (by rw [e, z]), fun n od e => by
    obtain ⟨h1, o, h2, h3⟩ := rs.liv n od e
    exact ⟨h1, o, x _ _ h2 (or_ne h3).1, h3⟩, rs.inj, t, rs.ntb⟩
theorem nx_ext {K : PySem.W.Frag} {F ad S H H1} (x : LamX.ExtN H H1) : Nx F ad S H F ad S H1 :=
  ⟨fun _ _ h => h, fun _ _ h => .inl h, Nat.le_refl _, fun _ _ => rfl, fun n od h => .inl ⟨od, h⟩, fun a o h _ n => x a o h n, fun a h => by
    cases q : H a with
    | none => exact .inl q
    | some o =>
      by_cases c : ∀ ps, o ≠ .tbl ps
      · exact (fr_no (x a o q c) c h).elim
      · simp only [ne_eq, Classical.not_forall, Classical.not_not] at c
        obtain ⟨ps, rfl⟩ := c
        exact .inr ⟨ps, q⟩⟩
section
variable {X : Cx} {W : WX} {x a en cl wd : Str} {st : Stmt} {Ng : List Str} {CL : Addr} {tab : List (String × Bool)} {qf : Ex → M D} {sgf : Addr → Addr → String → Env → MS} {j kt k : Nat} {p1 p2 p3 p4 p5 p6 p7 p8 p lpos pos : Pos} {b₀ : Stmt} {suite : List Stmt}
/-- the suite, in its context -/
def SuiteOk (P : Program) (w : World) (K : PySem.W.Frag) (mg : Str → Option Value) (base : Heap) (x : Str) (sc : Scope) (Ng : List Str) (st : List Stmt) (sgf : Addr → Addr → String → Env → MS) : Prop :=
  ∀ (g : Addr) (cdg : Value) (A : Around) (outer : List PySem.Env) (s : Shared) (H : Hp) (a : Addr) (oe : Obj) (dd C : Addr) (y : String) (pn : List (Addr × Obj)), A.units + 100 < cLine → Zc (.ref C) (some dd) oe → (∃ vs, oe.data = .fields vs) → mg (Str.ofString y) = some (.ref C) →
    FSs ((cxOf C8.CX0 P w K mg base Ng x sc g cdg A outer s H C8.E0).nox.suite a ((a, oe) :: pn)) W0 st (sgf a dd y)
theorem heard_gives {g : Addr} {cdg : Value} {q : Str} (Sg : FnScope Ng [a] (defScope st)) (hN1 : Ng[1]? = some en) (hloc : (defScope st).names.lookup en = some .local) (hgc : (defScope st).names.lookup cl = some .globalImplicit) (hmc : X.mg cl = some (.ref CL)) (hdc : (cl == ("__debug__" : Str)) = false)
    (ht : ∀ p ∈ tab, SubX X.K X.mg p.1 (.ref CL) p.2) (hu : X.A.units + 100 < cLine) (hsu : SuiteOk X.prog X.w X.K X.mg X.base x (defScope st) Ng (b₀ :: suite) sgf) (h0 : ∀ f : Addr, (L2.start Ng [V.ref f])[0]? = some (some (V.ref f)))
    (hq : ∀ a dd e S d S', qf e S = .ok d S' → sgf a dd e.cls ((List.replicate Ng.length none).set 1 (some (.err a dd (e.fs.map (·.1)) (e.fs.map (·.2))))) S = .ok (.rt d) S') :
    LamX.GivesTo X Ng x (defScope st) g cdg [.Try [.Return (some (.Tuple [.Constant (.str wd) j p5, .Call (.Name a p1) [] [] p2] kt p6)) p3] [.ExceptHandler (some (.Name cl p4)) (some en) (b₀ :: suite) p7] [] [] p8] a q (THeard X.K X.mg wd tab qf) := by
  intro f c' s H0 Q tl act hc h
  have hgl : Gl (cxOf C8.CX0 X.prog X.w X.K X.mg X.base Ng x (defScope st) g cdg X.A X.stack s H0 C8.E0).nox cl := hgc
  refine ⟨_, pss_one (ps_try_as (X := (cxOf C8.CX0 X.prog X.w X.K X.mg X.base Ng x (defScope st) g cdg X.A X.stack s H0 C8.E0).nox) (c := .ref CL) (i := 1)
      (tb := fun W D σ H => ∃ Ech : XK, (∀ cls d σ' H', Ech cls d H' → W cls d σ' H') ∧ σ[0]? = some (some (.ref f)) ∧ H c' = some (LamX.CodeO c' q) ∧ tl Ech H fun v H1 => ([.str wd, v] : List V).length ≤ sizeLine ∧ ∀ (p : Addr) (o : Obj), H1 p = none → o.dict = none → D.rt (.ref p) (upd H1 p (.frz o (.tup [.str wd, v]))))
      (ts := fun a cls d D σ H => σ.length = Ng.length → ∃ C dd y, cls = .ref C ∧ d = some dd ∧ X.mg (Str.ofString y) = some (.ref C) ∧ tS (cxOf C8.CX0 X.prog X.w X.K X.mg X.base Ng x (defScope st) g cdg X.A X.stack s H0 C8.E0).nox W0 (sgf a dd y) D σ H)
      rfl rfl Sg.nd hN1 hloc ⟨hgl, hdc, .inl hmc⟩ LamX.takes0 (fun W pn xe tk _ => ?_) (fun a' oe cls d pn hz hf => ?_)), ?_⟩
  · refine ⟨fun pins s' σ H' D I ⟨Ech, hW, e1, e2, e3⟩ => ?_⟩
    have hp := act W pn xe Ech p1 p2 tk hW
    have hq := pss_one (ps_ret (pos := p3) (pe_tupC (x1 := kt) (pos := p6) (pa_cons (pe_str (x := wd) (j := j) (pos := p5)) (pa_cons hp pa_nil))))
    refine hq.run pins s' σ H' D I ?_
    exact ⟨e1, e2, e3⟩
  · refine PSs.weakI ⟨fun pins s' σ H' D I h' => ?_⟩ fun D σ H hl h' => (h' hl)
    obtain ⟨C, dd, y, rfl, rfl, hy, h'⟩ := h'
    exact (hsu g cdg X.A X.stack s H0 a' oe dd C y pn hu hz hf hy).run.run pins s' σ H' D I h'
  · refine ⟨EQ X.K X.mg tab qf Q, fun cls d σ' H' ⟨F, ad, S, e, r, S', rs, er, htt, hqf, hfin⟩ => ⟨true, exm_tab ht er htt, fun _ a' ha' hl => ?_, fun z => nomatch z⟩, h0 f, hc, h⟩
    have er0 := er
    obtain ⟨C, dd, fs, m1, m2, m3, m4, m5, m6⟩ := er
    have hl' : 1 < σ'.length := by rw [List.length_set] at hl; rw [hl]; exact lt_of_some hN1
    have de : DP X.K F ad S.length (.err a' dd (e.fs.map (·.1)) (e.fs.map (·.2))) (.ref a') := ⟨rfl, fs, m4, m5, m6⟩
    refine ⟨C, dd, e.cls, m2, m3, m1, F, ad, _, S, re_one (n := Ng.length) (List.getElem?_set_self hl') de, rs, ?_⟩
    rw [hq a' dd e S r S' hqf]
    exact fun v F' ad' H2 n2 r2 d2 => hfin v F' ad' H2 n2 r2 d2
/-- x(lambda: body) -/
theorem fe_heard {c P : Addr} {params : Arguments} {body : Expr} {scope : Scope} {fb : Env → M D} (T0 : DefAt X.K X.mg x st [a]) (Sg : FnScope Ng [a] (defScope st))
    (hbd : defBody st = [.Try [.Return (some (.Tuple [.Constant (.str wd) j p5, .Call (.Name a p1) [] [] p2] kt p6)) p3] [.ExceptHandler (some (.Name cl p4)) (some en) (b₀ :: suite) p7] [] [] p8])
    (hN0 : Ng[0]? = some a) (hN1 : Ng[1]? = some en) (hloc : (defScope st).names.lookup en = some .local) (hgc : (defScope st).names.lookup cl = some .globalImplicit) (hmc : X.mg cl = some (.ref CL)) (hdc : (cl == ("__debug__" : Str)) = false)
    (ht : ∀ p ∈ tab, SubX X.K X.mg p.1 (.ref CL) p.2) (hsu : SuiteOk X.prog X.w X.K X.mg X.base x (defScope st) Ng (b₀ :: suite) sgf) (h0 : ∀ f : Addr, (L2.start Ng [V.ref f])[0]? = some (some (V.ref f)))
    (hq : ∀ a dd e S d S', qf e S = .ok d S' → sgf a dd e.cls ((List.replicate Ng.length none).set 1 (some (.err a dd (e.fs.map (·.1)) (e.fs.map (·.2))))) S = .ok (.rt d) S')
    (hg : Gl X x) (TB : LamX.TabB X.base X.mg c P) (hcode : X.env.code = .ref c) (hmT : (P, X.env.qual ++ "<lambda>") ∈ tb.T) (hun : ∀ p ∈ tb.T, p.1 = P → p.2 = X.env.qual ++ "<lambda>") (hr : Room (k + 2) X.A) (L : LamX.LamS X.env.scope scope) (hdef : defaultsOf params X.env = ([], []))
    (hbind : ∀ (q : Str) (cl : List (Str × Addr)) (pm cv ctv : Value), bindArgs (PySem.W.kla_fn "<lambda>" q params body scope cl pm cv ctv) ⟨[], []⟩ = pure [])
    (hbody : ∀ (A : Around) (outer : List PySem.Env) (s : Shared) (H : Hp) (E : XK) (f c' : Addr), Room k (A.deeper (LamX.lamEnv X scope s.heap.objs.size f c')) → FE (LamX.lamCx X A outer s H E scope f c') (WE E) body fb)
    (hd : (a == ("__debug__" : Str)) = false := by decide) (hcd : (a == ("__classdict__" : Str)) = false := by decide) (hdb : (x == ("__debug__" : Str)) = false := by decide) :
    FE X W (.Call (.Name x p) [.Lambda params body scope lpos] [] pos) (fun env => heardM wd tab qf (fb env)) := by
  obtain ⟨g, fd, m1, F, B⟩ := T0.ex
  obtain ⟨oc, od, kV, doc, pm, an, cdv, ct, osl, rfl, lk, hcg⟩ := F.ex
  have hG := heard_gives (g := g) (cdg := cdv) (q := X.env.qual ++ "<lambda>") (wd := wd) (qf := qf) (j := j) (kt := kt) (p1 := p1) (p2 := p2) (p3 := p3) (p4 := p4) (p5 := p5) (p6 := p6) (p7 := p7) (p8 := p8) Sg hN1 hloc hgc hmc hdc ht (by have := hr.un; omega) hsu h0 hq
  rw [← hbd] at hG
  have hva : Vis (defScope st) a := vis_par Sg (by simp)
  refine ⟨PE.weak (LamX.pe_lamcall (T := tb.T) (t := fun E => tF X (WE E) fb) hg m1 F.kp lk hcg B Sg hN0 hva hG TB hcode hmT hun hr L hdef hbind (fun A outer s H E f c' hr2 => (hbody A outer s H E f c' hr2).run) hdb hd hcd) fun σ H Q ⟨F, ad, env, S, re, rs, h⟩ => ?_⟩
  refine ⟨rs.tab, fun H1 x1 t1 => ?_⟩
  have rs1 := rs_ext rs x1 t1
  have n1 : Nx F ad S H F ad S H1 := nx_ext (K := X.K) x1
  refine ⟨F, ad, env, S, re, rs1, ?_⟩
  simp only [heardM] at h
  cases q : fb env S with
  | no => rw [q] at h; exact h
  | ok d S' =>
    rw [q] at h
    refine fun v F' ad' H' n2 r2 d2 => ⟨by show 2 ≤ sizeLine; decide, fun t o ht ho => ?_⟩
    exact h (.ref t) (upd F' t (.frz o (.tup [.str wd, v]))) ad' _ ((n1.trans n2).trans (Nx.alloc r2 ht)) (r2.alloc ht) ⟨t, [.str wd, v], rfl, .inl ⟨o, upd_same, ho⟩, .str wd, [v], rfl, rfl, v, [], rfl, DP.mono (Gr.alloc (F_none r2 ht)) d v d2, rfl⟩
  | ex e S' =>
    rw [q] at h
    simp only at h
    refine fun cls dd F' ad' H' n2 r2 er => ?_
    by_cases c : tab.lookup e.cls = some true
    · rw [if_pos c] at h
      cases q2 : qf e S' with
      | no => rw [q2] at h; exact h.elim
      | ex _ _ => rw [q2] at h; exact h.elim
      | ok r S2 =>
        rw [q2] at h
        exact ⟨F', ad', S', e, r, S2, r2, er, c, q2, fun v F2 ad2 H2 n3 r3 d3 => h v F2 ad2 H2 ((n1.trans n2).trans n3) r3 d3⟩
    · rw [if_neg c] at h; exact h.elim
end
end Fx

end
/-! ## Fx17 -/
section
namespace Fx
open PySem PySem.Spec PyProof.Rows L2
open AutoSeq1 (wpAny_loadPart')
variable [tb : Tabl]
/-! ### enumerate(tuple) -/
omit tb in
theorem enumT_new (t : Addr) (its : Array Value) (n : Nat) (dc : Option Addr) (sl : Array (Option Value)) :
    Meets (Builtin.«enumerate.__new__» ⟨[.type "enumerate", .ref t], []⟩) (fun _ R s => s.heap.get? t = some { cls := .type "tuple", dict := dc, data := .seq its n, slots := sl } ∧
      R (.ok (.ret (.ref (s.heap.push { cls := .type "tuple_iterator", data := .fields #[.ref t, .int 0 0] }).objs.size)))
        { s with heap := (s.heap.push { cls := .type "tuple_iterator", data := .fields #[.ref t, .int 0 0] }).push { cls := .type "enumerate", data := .fields #[.none, .bool false, .ref s.heap.objs.size, rawInt 0, .none, .none] } }) :=
  .of_wp fun prog w A R s h => by
    obtain ⟨hp, gs, dr, tk, os⟩ := s
    obtain ⟨ht, q⟩ := h
    have sub := sub_enumerate
    have hT : Heap.IsTuple (Shared.heap ⟨hp, gs, dr, tk, os⟩) t its := ⟨_, ht, rfl, n, rfl⟩
    wp_walk using wpAny_loadPart' ht
    refine wpAny_stack_any fun st => wpAny_pure ?_
    split
    · rename_i c _ _ _ _ _
      cases (c == Value.type "enumerate") <;>
        (wp_walk using wpAny_loadPart' ht, wpAny_pyIter_tuple hT
         exact ⟨_, rfl, q⟩)
    · wp_walk using wpAny_loadPart' ht, wpAny_pyIter_tuple hT
      exact ⟨_, rfl, q⟩
omit tb in
theorem enumT_call {prog : Program} {w : World} {A : Around} {E : Value → Shared → Prop} {s : Shared} {t : Addr} {its : Array Value} {Q : Value → Shared → Prop} (ht : s.heap.IsTuple t its)
    (k : ∀ h', IsEnum h' (s.heap.objs.size + 1) s.heap.objs.size 0 .none → h'.IsTupleIter s.heap.objs.size t 0 → (∀ b o, s.heap.get? b = some o → h'.get? b = some o) → Q (.ref (s.heap.objs.size + 1)) { s with heap := h' }) :
    wpAny (model prog w) A (call (.type "enumerate") [.ref t]) Q E s := by
  obtain ⟨⟨c, dc, dt, sl⟩, e, hc, n, hd⟩ := ht
  dsimp only at hc hd
  subst hc; subst hd
  refine callType_new F.called_enumerate (by decide) (F.typeCall_enumerate_1 _) (F.newCall_enumerate_1 _) (fun obj => F.args_object_init_2 obj _) F.entry_enumerate_new (enumT_new t its n dc sl) ⟨e, ?_⟩
  let o1 : Obj := { cls := .type "tuple_iterator", data := .fields #[.ref t, .int 0 0] }
  let o2 : Obj := { cls := .type "enumerate", data := .fields #[.none, .bool false, .ref s.heap.objs.size, rawInt 0, .none, .none] }
  have z1 : (s.heap.push o1).objs.size = s.heap.objs.size + 1 := Heap.size_push ..
  have e2 : ((s.heap.push o1).push o2).get? (s.heap.push o1).objs.size = some o2 := Heap.get?_push_size (s.heap.push o1) (o := o2) rfl
  show _ ∧ _
  rw [z1] at e2
  rw [show (s.heap.push { cls := .type "tuple_iterator", data := .fields #[.ref t, .int 0 0] }).objs.size = s.heap.objs.size + 1 from z1]
  exact ⟨⟨_, e2, rfl⟩, k _ e2 ⟨o1, Heap.get?_push_of_some o2 (Heap.get?_push_size s.heap (o := o1) rfl), rfl, rfl⟩ fun b o q => Heap.get?_push_of_some o2 (Heap.get?_push_of_some o1 q)⟩
/-- the tuple at a, each item in a new pair -/
def IteT (K : PySem.W.Frag) (a : Addr) : It :=
  ⟨fun i H => ∃ (xs : List V) (x : V), SqT K H a xs ∧ xs[i]? = some x, fun i H v H' => ∃ T x, v = .ref T ∧ H T = none ∧ H' = upd H T (.tup [.int (i : Nat), x]) ∧ ∀ xs, SqT K H a xs → xs[i]? = some x, fun i H => ∃ xs : List V, SqT K H a xs ∧ xs.length ≤ i⟩
omit tb in
theorem enumT_turn {P : Program} {w : World} {K : PySem.W.Frag} {elts : List Expr} {kk : Nat} {tpos : Pos} (a e it : Addr) (hne : e ≠ it) :
    Turn P w K (.Tuple elts kk tpos) (IteT K a) [e, it] e (fun i h => (∃ old, IsEnum h e it ((i : Nat) : Int) old) ∧ h.IsTupleIter it a i) := by
  constructor
  · simp
  · rintro i h ⟨⟨old, he⟩, o, ho, hc, hd⟩ b hb
    have : b = e ∨ b = it := by simpa using hb
    rcases this with rfl | rfl
    · exact ⟨_, he, fun v q => nomatch q⟩
    · exact ⟨o, ho, fun v q => by rw [hd] at q; cases q⟩
  · rintro i h h' ⟨⟨old, he⟩, hi⟩ k
    exact ⟨⟨old, k e (by simp) _ he⟩, hi.at fun o q => k it (by simp) o q⟩
  · rintro X rfl rfl rfl hc i pins s σ H E I hf ⟨⟨old, he⟩, hi⟩ ⟨xs, x, hq, hx⟩
    obtain ⟨its, rv, p, hz⟩ := I.tuple hq
    obtain ⟨u, hu, ru⟩ := rv.get hx
    have le : e < s.heap.objs.size := Heap.lt_size he
    have li : it < s.heap.objs.size := by obtain ⟨_, q, _⟩ := hi; exact Heap.lt_size q
    by_cases ea : e = a
    · subst ea
      obtain ⟨o, q1, q2, _⟩ := p
      rw [he] at q1; cases q1
      exact absurd (Value.type.inj q2) (by decide)
    by_cases ia : a = it
    · subst ia
      obtain ⟨o, q1, q2, _⟩ := p
      obtain ⟨o', q3, q4, _⟩ := hi
      rw [q1] at q3; cases q3
      rw [q2] at q4
      exact absurd (Value.type.inj q4) (by decide)
    have hl : i < its.toArray.size := by have := (List.getElem?_eq_some_iff.mp hu).1; simpa using this
    refine wpAny_pyNext_enum_itemD (Draws.tuple (A := X.A.in1) (I.ok.hd hc) it a ia its.toArray) he ⟨hi, p⟩ hl hne (by simp [ea, hne]) fun y h1 tk hy out st hT hsz kp => ?_
    have ey : y = u := by rw [List.getElem?_toArray, hu] at hy; exact (Option.some.inj hy).symm
    subst ey
    refine ⟨_, rfl, wpAny_letOwnedTupleGo_enum (s := { s with heap := h1, toks := tk + 1 }) out fun h2 he2 sb => ?_⟩
    have t2 : h2.get? s.heap.objs.size = some { cls := .type "tuple", data := .seq #[.int i tk, y] } := (sb.2 _ (Nat.ne_of_gt le)).trans hT
    have ok : ObjOk X.prog X.w (upd H s.heap.objs.size (.tup [.int (i : Nat), x])) h2 s.heap.objs.size (.tup [.int (i : Nat), x]) :=
      ⟨by show 2 ≤ sizeLine; decide, [.int i tk, y], .cons ⟨_, rfl⟩ (.cons ru .nil), _, t2, rfl, _, rfl⟩
    have keep : ∀ b ob, b ∉ [e, it] → s.heap.get? b = some ob → h2.get? b = some ob := fun b ob nb q => by
      have n1 : b ≠ e := fun z => nb (by simp [z])
      have n2 : b ≠ it := fun z => nb (by simp [z])
      exact (sb.2 b n1).trans (kp b ob n1 n2 q)
    refine ⟨.ref s.heap.objs.size, _, I.turnedNew (ch := [e, it]) keep hf (Nat.le_refl _) ok, rfl, ⟨_, x, rfl, I.hok.fresh (Nat.le_refl _), rfl, fun ys hy => by rw [I.tuple_inj hy hq]; exact hx⟩, ⟨⟨y, ?_⟩, st.1.at fun o q => (sb.2 it (Ne.symm hne)).trans q⟩, fun b hb => ?_⟩
    · have : ((i + 1 : Nat) : Int) = (i : Int) + 1 := by omega
      rw [this]; exact he2
    · have hb' : b ≠ s.heap.objs.size := by
        have : b = e ∨ b = it := by simpa using hb
        rcases this with z | z
        · rw [z]; exact Nat.ne_of_lt le
        · rw [z]; exact Nat.ne_of_lt li
      rw [upd_ne hb']
      exact (hf b hb).1
  · rintro X rfl rfl rfl hc i pins s σ H E I hf ⟨⟨old, he⟩, hi⟩ ⟨xs, hq, hx⟩
    obtain ⟨its, rv, p, hz⟩ := I.tuple hq
    by_cases ia : a = it
    · subst ia
      obtain ⟨o, q1, q2, _⟩ := p
      obtain ⟨o', q3, q4, _⟩ := hi
      rw [q1] at q3; cases q3
      rw [q2] at q4
      exact absurd (Value.type.inj q4) (by decide)
    obtain ⟨f0, f1, f2, f3, f4, f5⟩ := hf it (by simp)
    have hl := rv.length
    have D : Draws X.prog X.w X.A.in1 it [it, a] i (fun _ _ => True) (fun j h => j = i ∧ h.IsTupleIter it a i ∧ h.IsTuple a its.toArray) := by
      constructor
      · rintro j h ⟨_, ⟨o, ho, _⟩, _⟩
        exact ⟨o, ho⟩
      · rintro j h h' ⟨z, st, sq⟩ k
        exact ⟨z, st.at fun o q => k it (by simp) o q, sq.at fun o q => k a (by simp) o q⟩
      · rintro j s' Q' E' hj ⟨z, _⟩
        omega
      · rintro s' Q' E' ⟨_, st, sq⟩ k
        exact wpAny_nextOf_tuple_end (I.ok.hd hc) st sq (by simp; omega) k
    exact wpAny_pyNext_enum_endD D he ⟨rfl, hi, p⟩ fun h' eb => ⟨rfl, I.turned (t' := s.toks) (fun b o hb q => eb b o hb q) f0 f1 f3 f4 f5⟩
  · rintro A i s Q E ⟨⟨old, he⟩, _⟩ h
    exact wpAny_pyIter_enum he h
/-! ### for i, x in enumerate(a tuple, a list) -/
def enuP (i : Nat) : List D → List D
  | [] => []
  | d :: ds => .utp [.int i, d] :: enuP (i + 1) ds
theorem enuP_get : ∀ {ds : List D} {k i : Nat}, (enuP k ds)[i]? = (ds[i]?).map fun d => .utp [.int ((k + i : Nat) : Int), d]
  | [], k, i => by simp [enuP]
  | d :: ds, k, 0 => by simp [enuP]
  | d :: ds, k, i + 1 => by
    simp only [enuP, List.getElem?_cons_succ]
    rw [enuP_get (ds := ds) (k := k + 1) (i := i)]
    have : k + 1 + i = k + (i + 1) := by omega
    rw [this]
theorem enuP_len : ∀ {ds : List D} {k : Nat}, (enuP k ds).length = ds.length
  | [], _ => rfl
  | d :: ds, k => by simp [enuP, enuP_len (ds := ds)]
def enuM : List D → M (List D)
  | [.lst xs] => pur (enuP 0 xs)
  | [.tup xs] => pur (enuP 0 xs)
  | _ => mno
def itEn (t : Env → M (List D)) : Env → M (List D) := fun env => bd (t env) enuM
section
variable {X : Cx} {W : WX}
theorem enu_new {F ad S H} {i : Nat} {y : D} {w : V} {T : Addr} (rs : RS X.K F ad S H) (hT : H T = none) (d2 : DP X.K F ad S.length y w) :
    ∃ F2 ad2, Nx F ad S H F2 ad2 S (upd H T (.tup [.int (i : Nat), w])) ∧ RS X.K F2 ad2 S (upd H T (.tup [.int (i : Nat), w])) ∧ DP X.K F2 ad2 S.length (.utp [.int (i : Nat), y]) (.ref T) :=
  ⟨upd F T (.tup [.int (i : Nat), w]), ad, Nx.alloc rs hT, rs.alloc hT, T, [.int (i : Nat), w], rfl, .inl (.inl upd_same), .int (i : Nat), [w], rfl, rfl, w, [], rfl, DP.mono (Gr.alloc (F_none rs hT)) y w d2, rfl⟩
theorem itOk_enuL {F ad L} {ds : List D} {a : Addr} {vs : List V} (q : SqL X.K F a vs) (dp : DPs X.K F ad L ds vs) : ItOk X F ad L (enuP 0 ds) (Ite X.K a) := fun F' ad' S' H' g rs i => by
  have q' : SqL X.K H' a vs := sqL_mono rs.sub (sqL_mono g.f q)
  have dp' := DPs.mono g ds vs dp
  refine ⟨fun d e => ?_, fun hi => ⟨vs, q', by rw [enuP_len] at hi; rw [← dp.length]; exact hi⟩⟩
  rw [enuP_get] at e
  obtain ⟨y, e1, rfl⟩ := Option.map_eq_some_iff.mp e
  obtain ⟨v, f1, f2⟩ := dp'.at e1
  refine ⟨⟨vs, v, q', f1⟩, fun x H'' ⟨T, u, ex, hT, eH, k⟩ => ?_⟩
  have z := k vs q'
  rw [f1] at z; cases z
  subst ex eH
  rw [Nat.zero_add]
  exact enu_new rs hT f2
theorem itOk_enuT {F ad L} {ds : List D} {a : Addr} {vs : List V} (q : SqT X.K F a vs) (dp : DPs X.K F ad L ds vs) : ItOk X F ad L (enuP 0 ds) (IteT X.K a) := fun F' ad' S' H' g rs i => by
  have q' : SqT X.K H' a vs := sqT_mono rs.sub (sqT_mono g.f q)
  have dp' := DPs.mono g ds vs dp
  refine ⟨fun d e => ?_, fun hi => ⟨vs, q', by rw [enuP_len] at hi; rw [← dp.length]; exact hi⟩⟩
  rw [enuP_get] at e
  obtain ⟨y, e1, rfl⟩ := Option.map_eq_some_iff.mp e
  obtain ⟨v, f1, f2⟩ := dp'.at e1
  refine ⟨⟨vs, v, q', f1⟩, fun x H'' ⟨T, u, ex, hT, eH, k⟩ => ?_⟩
  have z := k vs q'
  rw [f1] at z; cases z
  subst ex eH
  rw [Nat.zero_add]
  exact enu_new rs hT f2
def iEnuT (K : PySem.W.Frag) (ta : TA) : TI := fun σ H R => ta σ H fun vs H1 => ∃ a xs, vs = [.ref a] ∧ SqT K H1 a xs ∧ R (IteT K a) H1
omit tb in
theorem pi_enuT {e : Expr} {ta : TA} {p pos tpos : Pos} {elts : List Expr} {kk : Nat} (hg : Gl X "enumerate") (hm : X.mg "enumerate" = none) (ha : PA X [e] ta) (hs : starEach [e] X.env = [(false, eval e X.env)] := by rfl) :
    PI X (.Tuple elts kk tpos) (.Call (.Name "enumerate" p) [e] [] pos) (iEnuT X.K ta) := by
  refine ⟨fun pins s σ H R I h => ?_⟩
  have h : ta σ H fun vs H1 => ∃ a xs, vs = [.ref a] ∧ SqT X.K H1 a xs ∧ R (IteT X.K a) H1 := h
  refine Call_ (ld_blt I hg hm boot_enumerate (PyProof.Rows.callWith_type1 (thn (ha.run pos pins s σ H _ I h) fun us s1 z => ?_) hs rfl))
  obtain ⟨vs, H1, I1, r1, a, xs, ex, hq, q⟩ := z
  subst ex
  match us, r1 with
  | [_], .cons r .nil =>
    cases r
    obtain ⟨its, rv, p', hz⟩ := I1.tuple hq
    refine enumT_call p' fun h' he hi k => wpAny_pyIter_enum he ?_
    have fresh : ∀ b ∈ [s1.heap.objs.size + 1, s1.heap.objs.size], FpOk X pins H1 b := fun b hb => by
      have le : s1.heap.objs.size ≤ b := by
        have : b = s1.heap.objs.size + 1 ∨ b = s1.heap.objs.size := by simpa using hb
        rcases this with z | z
        · rw [z]; exact Nat.le_succ _
        · rw [z]; exact Nat.le_refl _
      exact I1.fpOk le (I1.hok.fresh le)
    have I2 : Inv X pins σ H1 { s1 with heap := h' } := I1.kept (t' := s1.toks) k
    exact ⟨s1.heap.objs.size + 1, [s1.heap.objs.size + 1, s1.heap.objs.size], _, _, H1, rfl, I2, enumT_turn a (s1.heap.objs.size + 1) s1.heap.objs.size (Nat.succ_ne_self _), ⟨⟨.none, he⟩, hi⟩, fresh, q⟩
theorem fi_enu {e : Expr} {t : Env → M (List D)} {p pos tpos : Pos} {elts : List Expr} {kk : Nat} (hg : Gl X "enumerate") (hm : X.mg "enumerate" = none) (ha : FA X W [e] t) (hs : starEach [e] X.env = [(false, eval e X.env)] := by rfl) :
    FI X W (.Tuple elts kk tpos) (.Call (.Name "enumerate" p) [e] [] pos) (itEn t) := by
  refine ⟨_, PI.or (pi_enum hg hm ha.run hs) (pi_enuT hg hm ha.run hs), fun σ H R F ad env S re rs h => ?_⟩
  simp only [itEn, bd] at h
  cases q : t env S with
  | no => rw [q] at h; exact h.elim
  | ex x S1 => rw [q] at h; exact .inl ⟨F, ad, env, S, re, rs, by rw [q]; exact h⟩
  | ok ds S1 =>
    rw [q] at h
    match ds, q, h with
    | [.lst xs], q, h =>
      refine .inl ⟨F, ad, env, S, re, rs, ?_⟩
      rw [q]
      rintro v F1 ad1 H1 n1 r1 ⟨u, r, rfl, ⟨a, vs, rfl, h1, h2⟩, e2⟩
      cases e2
      exact ⟨a, vs, rfl, SqL.of (r1.sub _ _ h1), h _ F1 ad1 H1 n1 r1 (itOk_enuL (SqL.of h1) h2)⟩
    | [.tup xs], q, h =>
      refine .inr ⟨F, ad, env, S, re, rs, ?_⟩
      rw [q]
      rintro v F1 ad1 H1 n1 r1 ⟨u, r, rfl, ⟨a, vs, rfl, h1, h2⟩, e2⟩
      cases e2
      exact ⟨a, vs, rfl, sqT_mono r1.sub h1.sq, h _ F1 ad1 H1 n1 r1 (itOk_enuT h1.sq h2)⟩
    | [], _, h => exact h.elim
    | [.non], _, h => exact h.elim
    | [.bl _], _, h => exact h.elim
    | [.int _], _, h => exact h.elim
    | [.str _], _, h => exact h.elim
    | [.obj _], _, h => exact h.elim
    | [.scr _], _, h => exact h.elim
    | [.err ..], _, h => exact h.elim
    | [.utp ..], _, h => exact h.elim
    | d1 :: _ :: _, _, h => cases d1 <;> exact h.elim
end
end Fx

end
/-! ## Fx18 -/
section
namespace Fx
open PySem PySem.Spec PyProof.Rows L2
variable [tb : Tabl]
/-! ### {k: v for target in iter if ..} -/
def compD (t : D → Env → Option Env) (c : Env → M Bool) (kx vx : Env → M D) (env0 : Env) : List D → List (Key × D) → M D
  | [], acc => mkO (.dct acc)
  | d :: ds, acc => match t d env0 with
    | none => mno
    | some env1 => bdN (c env1) fun b => if b = true then bdN (kx env1) fun y => bdN (vx env1) fun z => bdN (opt (keyOf y)) fun k => if acc.length < sizeLine then compD t c kx vx env0 ds (putD acc k z) else mno else compD t c kx vx env0 ds acc
def cmd (vs : List Nat) (m : Env → M (List D)) (t : D → Env → Option Env) (c : Env → M Bool) (kx vx : Env → M D) : Env → M D := fun env => bd (m env) fun ds => compD t c kx vx (wipeE env vs) ds []
section
variable {X : Cx} {W : WX} {pos : Pos}
theorem dc_pre {tg iter : Expr} {scope : Scope} {own : List (Str × Nat)} {it : Env → M (List D)} {ws : List Nat} {t : D → Env → Option Env} {c : Env → M Bool} {kx vx : Env → M D} {wi : TI}
    (hws : ∀ j ∈ ws, j ∈ own.map (·.2))
    (hwi : ∀ σ H (R : It → Hp → Prop) F ad env S, RE X.K F ad S.length env σ → RS X.K F ad S H → Fin X W (ItOk X) σ F ad S H (it env S) R → wi σ H R)
    {σ : L2.St} {F ad env S H} {Q : VK} (hl : σ.length = X.N.length) (re : RE X.K F ad S.length env σ) (rs : RS X.K F ad S H)
    (h : Fin X W (DP X.K) σ F ad S H (cmd (own.map (·.2)) it t c kx vx env S) Q) : tDc wi (gF X.K X.N.length ws t) (tB X W0 c) (tF X W0 kx) (tF X W0 vx) (own.map (·.2)) σ H Q := by
  refine hwi σ H _ F ad env S re rs (Fin.seq re h fun F1 ad1 S1 ds J H1 n1 re1 rs1 it1 h1 => fun Da hDa => ?_)
  have nl1 : ¬ Live S1 ad1 Da := fun ⟨n, od, e, z⟩ => by
    obtain ⟨_, u, h2, _⟩ := rs1.liv n od e
    rw [z, hDa] at h2; cases h2
  let Nt : Nat → Hp → Prop := fun i H' => i ≤ ds.length ∧ ∃ F' ad' S' acc vs, Nx F1 ad1 S1 H1 F' ad' S' H' ∧ RS X.K F' ad' S' H' ∧ H' Da = some (.dK vs) ∧ DPk X.K F' ad' S'.length acc vs ∧ F' Da = none ∧ ¬ Live S' ad' Da ∧
    Fin X W (DP X.K) σ F1 ad1 S1 H1 (compD t c kx vx (wipeE env (own.map (·.2))) (ds.drop i) acc S') Q
  refine ⟨fun i k H' => k = ds.length - i ∧ Nt i H', ⟨ds.length, by simp, Nat.zero_le _, F1, ad1, S1, [], [], .priv .refl hDa, rs1.priv (F_none rs1 hDa) nl1 (none_ne hDa), upd_same, rfl, F_none rs1 hDa, nl1, by simpa using h1⟩, ?_⟩
  rintro i k H' ⟨rfl, hi, F', ad', S', acc, vs, n', rs', hH, dacc, hF, nl, h'⟩
  obtain ⟨itg, its⟩ := it1 F' ad' S' H' n'.gr rs' i
  by_cases hlt : i < ds.length
  · obtain ⟨jg, jy⟩ := itg ds[i] (by simp [hlt])
    rw [show ds.drop i = ds[i] :: ds.drop (i + 1) by rw [List.drop_eq_getElem_cons hlt]] at h'
    refine .inr ⟨jg, Nt (i + 1), fun H2 q => ⟨ds.length - (i + 1), by omega, rfl, q⟩, fun x H'' y => ?_⟩
    obtain ⟨Fy, ady, ny, rsy, dx⟩ := jy x H'' y
    obtain ⟨kk1, kk2, kk3⟩ := ny.still hH hF nl dk_ne.1
    have hH := kk1
    have hF := kk2
    have nl := kk3
    have n' := n'.trans ny
    have dacc := DPk.mono ny.gr _ _ dacc
    unfold compD at h'
    cases e1 : t ds[i] (wipeE env (own.map (·.2))) with
    | none => simp only [e1] at h'; exact h'.elim
    | some env1 =>
      simp only [e1] at h'
      refine ⟨Fy, ady, S', _, ds[i], env1, rsy, dx, (re1.mono n'.gr).wipe _, by rw [wipe_length]; exact hl, e1, fun σ2 re2 b2 => ⟨wipe_but b2 hws, ?_⟩⟩
      refine ⟨Fy, ady, env1, S', re2, rsy, Fin.bdN rfl h' fun F2 ad2 S2 b b' H2 n2 rs2 eb h2 => ?_⟩
      subst eb
      obtain ⟨k1, k2, k3⟩ := n2.still hH hF nl dk_ne.1
      cases b with
      | false => exact iteF ⟨hlt, F2, ad2, S2, acc, vs, n'.trans n2, rs2, k1, DPk.mono n2.gr _ _ dacc, k2, k3, by simpa using h2⟩
      | true =>
        refine iteT ⟨F2, ad2, env1, S2, re2.mono n2.gr, rs2, Fin.bdN rfl (show Fin X W (DP X.K) σ F1 ad1 S1 H1 (Fx.bdN (kx env1) _ S2) Q by simpa using h2) fun F3 ad3 S3 yd yv H3 n3 rs3 dp3 h3 => ?_⟩
        obtain ⟨l1, l2, l3⟩ := n3.still k1 k2 k3 dk_ne.1
        refine ⟨F3, ad3, env1, S3, (re2.mono n2.gr).mono n3.gr, rs3, Fin.bdN rfl h3 fun F4 ad4 S4 zd zv H4 n4 rs4 dp4 h4 => ?_⟩
        obtain ⟨m1, m2, m3⟩ := n4.still l1 l2 l3 dk_ne.1
        cases ek : keyOf yd with
        | none => rw [ek] at h4; exact h4.elim
        | some k =>
          rw [ek] at h4
          have h4 : Fin X W (DP X.K) σ F1 ad1 S1 H1 ((if acc.length < sizeLine then compD t c kx vx (wipeE env (own.map (·.2))) (ds.drop (i + 1)) (putD acc k zd) else mno) S4) Q := h4
          split at h4
          case isFalse => exact h4.elim
          rename_i c3
          have ev : yv = kV k := keyOf_V dp3 ek
          subst ev
          have dk4 := DPk.mono (n2.trans (n3.trans n4)).gr _ _ dacc
          refine ⟨vs, k, rfl, m1, by rw [← dacc.length]; exact c3, hlt, F4, ad4, S4, putD acc k zd, putK vs k zv, .priv (n'.trans (n2.trans (n3.trans n4))) hDa, rs4.priv m2 m3 (some_nk m1), upd_same, dk4.put dp4, m2, m3, h4⟩
  · have e : i = ds.length := by omega
    subst e
    rw [List.drop_length] at h'
    refine .inl ⟨its (Nat.le_refl _), ?_⟩
    exact h' (.ref Da) F' _ H' (n'.enrol hDa) (rs'.enrol hH hF nl ⟨vs, rfl, dacc⟩) ⟨by simp, by rw [adn_same]⟩
theorem fe_dc {kex vex tg iter : Expr} {ifs : List Expr} {scope : Scope} {own : List (Str × Nat)} {it : Env → M (List D)} {ws : List Nat} {t : D → Env → Option Env} {c : Env → M Bool} {kx vx : Env → M D}
    (hc : X.calm = true) (hN : X.N.Nodup) (hi : FI X W tg iter it) (ok : BlkOk X.N X.env.scope scope own) (hws : ∀ j ∈ ws, j ∈ own.map (·.2))
    (hg : ∀ (s : Shared) (H : Hp) (C : Addr) (cl : List (Str × Addr)) (fp : List Addr), FG (X.blk s H scope (compEnvC scope cl C X.env) fp) tg ws t)
    (ht : ∀ (s : Shared) (H : Hp) (C : Addr) (cl : List (Str × Addr)) (fp : List Addr), PTs (X.blk s H scope (compEnvC scope cl C X.env) fp) ifs (tB X W0 c))
    (hk : ∀ (s : Shared) (H : Hp) (C : Addr) (cl : List (Str × Addr)) (fp : List Addr), FE (X.blk s H scope (compEnvC scope cl C X.env) fp) W0 kex kx)
    (he : ∀ (s : Shared) (H : Hp) (C : Addr) (cl : List (Str × Addr)) (fp : List Addr), FE (X.blk s H scope (compEnvC scope cl C X.env) fp) W0 vex vx)
    (hs : ∀ x, foldedSetIterable iter X.env x = pure x := by intro _; rfl) :
    FE X W (.DictComp kex vex [⟨tg, iter, ifs, 0⟩] scope pos) (cmd (own.map (·.2)) it t c kx vx) := by
  obtain ⟨wi, pi, hwi⟩ := hi
  refine ⟨PE.weakI (pe_dc (own := own) (g := gF X.K X.N.length ws t) (tt := tB X W0 c) (tk := tF X W0 kx) (tv := tF X W0 vx) hc hN pi ok (fun s H C cl fp => (hg s H C cl fp).pg) ht (fun s H C cl fp => (hk s H C cl fp).run) (fun s H C cl fp => (he s H C cl fp).run) hs) fun σ H Q hl ⟨F, ad, env, S, re, rs, h⟩ => ?_⟩
  exact dc_pre (scope := scope) (tg := tg) (iter := iter) hws hwi hl re rs h
/-- y = {..} on one line, y a local -/
theorem sw_trueD {kx vx : Expr} {gs : List Comprehension} {scope : Scope} {pos py : Pos} {y : Str} {l : Nat} {env : PySem.Env} (hk : env.scope.kind = .function) (hy : env.scope.names.lookup y = some .local) (hl : (py.line == pos.line) = true)
    (ha : (scope.names.any fun (n, k) => n == y && (k == .local || k == .cell)) = false) : swapsWith (.DictComp kx vx gs scope pos) (some (.Name y py)) l env = pure true := by
  have ky : env.kindOf y = some .local := hy
  have hb : env.blockKind = .function := by unfold PySem.Env.blockKind; rw [hk]; rfl
  unfold swapsWith
  simp only [hb, ky, ha, Expr.pos, hl]
  rfl
theorem ps_setDc {i : Nat} {y : Str} {py : Pos} {kx vx tg iter : Expr} {ifs : List Expr} {scope : Scope} {own : List (Str × Nat)} {pos spos : Pos} {wi : TI} {g : TG} {tt : TT} {tk tv : TE} (hc : X.calm = true) (hN : X.N.Nodup) (hy : X.N[i]? = some y) (hyl : X.env.scope.names.lookup y = some .local)
    (hsw : swapsWith (.DictComp kx vx [⟨tg, iter, ifs, 0⟩] scope pos) (some (.Name y py)) spos.line X.env = pure true) (hi : PI X tg iter wi) (ok : BlkOk X.N X.env.scope scope own)
    (hg : ∀ (s : Shared) (H : Hp) (C : Addr) (cl : List (Str × Addr)) (fp : List Addr), PG (X.blk s H scope (compEnvC scope cl C X.env) fp) tg g) (ht : ∀ (s : Shared) (H : Hp) (C : Addr) (cl : List (Str × Addr)) (fp : List Addr), PTs (X.blk s H scope (compEnvC scope cl C X.env) fp) ifs tt)
    (hk : ∀ (s : Shared) (H : Hp) (C : Addr) (cl : List (Str × Addr)) (fp : List Addr), PE (X.blk s H scope (compEnvC scope cl C X.env) fp) kx tk)
    (he : ∀ (s : Shared) (H : Hp) (C : Addr) (cl : List (Str × Addr)) (fp : List Addr), PE (X.blk s H scope (compEnvC scope cl C X.env) fp) vx tv) (hs : ∀ x, foldedSetIterable iter X.env x = pure x := by intro _; rfl) :
    PS X (.Assign [.Name y py] (.DictComp kx vx [⟨tg, iter, ifs, 0⟩] scope pos) spos) (tAsg (tDc wi g tt tk tv (own.map (·.2))) (gName i)) := by
  refine ⟨fun pins s σ H D I h => ?_⟩
  rw [exec_Assign_Name_used _ _ _ _ hsw]
  refine wpAny_bind (wpAny_standAt (wpAny_bind ?_))
  show wpAny _ X.A (do let _ ← comprehension (.DictComp kx vx [⟨tg, iter, ifs, 0⟩] scope pos) scope X.env (firstIterPos [⟨tg, iter, ifs, 0⟩] pos) newDict false (eval iter X.env) (some (assign (.Name y py) X.env))) _ _ s
  have h : tDc wi g tt tk tv (own.map (·.2)) σ H (fun x H1 => gName i x σ H1 D.nx) := h
  refine wpAny_bind (thn (dc_core (Qf := fun _ s' => SP X pins D .next s') hc hN I hi ok hg ht hk he hs h fun L C s' m H' I' q hn f => ?_) fun _ s' hq => wpAny_pure (wpAny_pure hq))
  show wpAny _ _ (assign (.Name y py) X.env (.ref L)) _ _ _
  refine wpAny_assign_Name (store_ok2 (v := V.ref L) I' hN hy (.inl hyl) rfl (fun s2 I2 ⟨a, sb, ha⟩ => ?_) (.inr hyl))
  obtain ⟨f0, f1, f2, f3, f4, f5⟩ := f
  have haC : C ≠ a := by
    rcases ha with z | z
    · rw [z]; exact f1
    · exact fun e => f4 y a z e.symm
  refine ⟨m, hn.sameBut sb haC, fun h3 sb3 => ?_⟩
  exact ⟨_, H', I2.turned (t' := s2.toks) (fun b o hb e => (sb3.2 b hb).trans e) f0 f1 f3 f4 f5, q⟩
theorem fs_setDc {i : Nat} {y : Str} {py spos : Pos} {kex vex tg iter : Expr} {ifs : List Expr} {scope : Scope} {own : List (Str × Nat)} {it : Env → M (List D)} {ws : List Nat} {t : D → Env → Option Env} {c : Env → M Bool} {kx vx : Env → M D}
    (hy : X.N[i]? = some y) (hyl : X.env.scope.names.lookup y = some .local)
    (hkd : X.env.scope.kind = .function) (hln : (py.line == pos.line) = true) (ha : (scope.names.any fun (n, k) => n == y && (k == .local || k == .cell)) = false)
    (hc : X.calm = true) (hN : X.N.Nodup) (hi : FI X W tg iter it) (ok : BlkOk X.N X.env.scope scope own) (hws : ∀ j ∈ ws, j ∈ own.map (·.2))
    (hg : ∀ (s : Shared) (H : Hp) (C : Addr) (cl : List (Str × Addr)) (fp : List Addr), FG (X.blk s H scope (compEnvC scope cl C X.env) fp) tg ws t)
    (ht : ∀ (s : Shared) (H : Hp) (C : Addr) (cl : List (Str × Addr)) (fp : List Addr), PTs (X.blk s H scope (compEnvC scope cl C X.env) fp) ifs (tB X W0 c))
    (hk : ∀ (s : Shared) (H : Hp) (C : Addr) (cl : List (Str × Addr)) (fp : List Addr), FE (X.blk s H scope (compEnvC scope cl C X.env) fp) W0 kex kx)
    (he : ∀ (s : Shared) (H : Hp) (C : Addr) (cl : List (Str × Addr)) (fp : List Addr), FE (X.blk s H scope (compEnvC scope cl C X.env) fp) W0 vex vx)
    (hs : ∀ x, foldedSetIterable iter X.env x = pure x := by intro _; rfl) :
    FS X W (.Assign [.Name y py] (.DictComp kex vex [⟨tg, iter, ifs, 0⟩] scope pos) spos) (set i (cmd (own.map (·.2)) it t c kx vx)) := by
  obtain ⟨wi, pi, hwi⟩ := hi
  refine ⟨PS.weakI (ps_setDc (own := own) (g := gF X.K X.N.length ws t) (tt := tB X W0 c) (tk := tF X W0 kx) (tv := tF X W0 vx) hc hN hy hyl (sw_trueD hkd hyl hln ha) pi ok (fun s H C cl fp => (hg s H C cl fp).pg) ht (fun s H C cl fp => (hk s H C cl fp).run) (fun s H C cl fp => (he s H C cl fp).run) hs) fun D σ H hl ⟨F, ad, env, S, re, rs, h⟩ => ?_⟩
  have hil : i < σ.length := by rw [hl]; exact lt_of_some hy
  exact dc_pre (scope := scope) (tg := tg) (iter := iter) hws hwi hl re rs (FinS.seqE re hl h fun F1 ad1 S1 d v H1 n1 re1 rs1 dp1 h1 => h1 _ F1 ad1 H1 .refl rs1 (re1.set dp1 hil) (by rw [List.length_set]; exact hl))
/-! ### k in a dict of the store -/
def dinD (neg : Bool) (x y : D) : M D := bd (objK y) fun c => bd (opt (keyOf x)) fun k => pur (.bl (if neg = true then !(valD c.2 k).isSome else (valD c.2 k).isSome))
theorem op_din (hu : X.A.units + 1 < cLine) : OpR X (compareOp .In) (fun x y H Q => ∃ a o, y = .ref a ∧ DGet H a x o ∧ Q (.bl o.isSome) H) := fun pins s σ H x y v u Q I rx ry ⟨a, o, e, g, q⟩ => by
  subst e
  obtain rfl : u = Value.ref a := ry
  exact d_in hu I g rx fun s3 I3 => ⟨.bl o.isSome, H, I3, rfl, q⟩
theorem op_dnotin (hu : X.A.units + 1 < cLine) : OpR X (compareOp .NotIn) (fun x y H Q => ∃ a o, y = .ref a ∧ DGet H a x o ∧ Q (.bl (!o.isSome)) H) := fun pins s σ H x y v u Q I rx ry ⟨a, o, e, g, q⟩ => by
  subst e
  obtain rfl : u = Value.ref a := ry
  exact d_notIn hu I g rx fun s3 I3 => ⟨.bl (!o.isSome), H, I3, rfl, q⟩
theorem din_at {W : WX} {σ : L2.St} {F ad S H} {x y : D} {v w : V} {Q : VK} {neg : Bool} (rs : RS X.K F ad S H) (dx : DP X.K F ad S.length x v) (dy : DP X.K F ad S.length y w) (h : Fin X W (DP X.K) σ F ad S H (dinD neg x y S) Q) :
    ∃ a o, w = .ref a ∧ DGet H a v o ∧ Q (.bl (if neg = true then !o.isSome else o.isSome)) H := by
  obtain ⟨c, S3, e3, h⟩ := Fin.look h fun _ _ => objK_ex
  obtain ⟨rfl, q, vs, rfl, hH, dk⟩ := objK_at rs dy e3
  obtain ⟨k, S4, e4, h⟩ := Fin.look h fun _ _ => opt_ex
  obtain ⟨rfl, e5⟩ := opt_ok e4
  have ew := keyOf_V dx e5
  subst ew
  refine ⟨_, valV vs k, rfl, DGet.k hH, Fin.pure rs h ?_⟩
  rcases dk.val (k := k) with ⟨z1, z2⟩ | ⟨d, u, e6, e7, d7⟩
  · rw [z1, z2]; rfl
  · rw [e6, e7]; rfl
theorem of_din (hu : X.A.units + 1 < cLine) : OpF X (compareOp .In) (dinD false) :=
  ⟨_, op_din hu, fun W σ F ad S H x y v w Q rs dx dy h => din_at (neg := false) rs dx dy h⟩
theorem of_dnotin (hu : X.A.units + 1 < cLine) : OpF X (compareOp .NotIn) (dinD true) :=
  ⟨_, op_dnotin hu, fun W σ F ad S H x y v w Q rs dx dy h => din_at (neg := true) rs dx dy h⟩
theorem fss_no {sts : List Stmt} : FSs X W sts (fun _ _ => .no) := ⟨⟨fun pins s σ H D I ⟨F, ad, env, S, re, rs, h⟩ => h.elim⟩⟩
end
theorem ite_ap0 {α β : Type} {c : Prop} [Decidable c] (f g : α → β) (x : α) : (if c then f else g) x = if c then f x else g x := by split <;> rfl
theorem sL1 : 1 ≤ sizeLine := by decide
theorem sL2 : 2 ≤ sizeLine := by decide
theorem sL3 : 3 ≤ sizeLine := by decide
theorem sL4 : 4 ≤ sizeLine := by decide
theorem sLt : 3 < sizeLine := by decide
theorem shp3 : ∀ a b c : Bool, SeqAt.shaped (.list [.bool a, .bool b, .bool c]) = true := by decide
theorem shp4 : ∀ a b c d : Bool, SeqAt.shaped (.list [.bool a, .bool b, .bool c, .bool d]) = true := by decide
end Fx

end
/-! ## Fx19 -/
section
namespace Fx
open PySem
open L2 (atI ixN Key)
/-! ### what holds behind a run: Q at its end, E at an error -/
def wp {α : Type} (r : Rs α) (Q : α → Store → Prop) (E : Ex → Store → Prop) : Prop := match r with
  | .ok a S => Q a S
  | .ex e S => E e S
  | .no => False
def wpS (r : RsS) (Q : Fl → Store → Prop) (E : Ex → Env → Store → Prop) : Prop := match r with
  | .ok f S => Q f S
  | .ex e env S => E e env S
  | .no => False
abbrev nE : Ex → Store → Prop := fun _ _ => False
abbrev nES : Ex → Env → Store → Prop := fun _ _ _ => False
section
variable {α β : Type} {Q Q' : α → Store → Prop} {R R' : Fl → Store → Prop} {S S' : Store} {env env' : Env} {E E' : Ex → Store → Prop} {G G' : Ex → Env → Store → Prop}
theorem wp_ok {a : α} : wp (.ok a S) Q E = Q a S := rfl
theorem wpS_ok {f : Fl} : wpS (.ok f S) R G = R f S := rfl
theorem wp_ex {e : Ex} : wp (.ex e S) Q E = E e S := rfl
theorem wpS_ex {e : Ex} : wpS (.ex e env S) R G = G e env S := rfl
theorem wp_out {r : Rs α} (h : wp r Q nE) : ∃ a S, r = .ok a S ∧ Q a S := by
  cases r with
  | ok a S => exact ⟨a, S, rfl, h⟩
  | ex _ _ => exact h.elim
  | no => exact h.elim
theorem wp_of {r : Rs α} {a : α} (h : r = .ok a S) (q : Q a S) : wp r Q E := by rw [h]; exact q
theorem wpS_of {r : RsS} {a : Fl} (h : r = .ok a S) (q : R a S) : wpS r R G := by rw [h]; exact q
theorem wp_mono {r : Rs α} (h : wp r Q E) (w : ∀ a S, Q a S → Q' a S) (v : ∀ e S, E e S → E' e S) : wp r Q' E' := by
  cases r with
  | ok a S => exact w a S h
  | ex e S => exact v e S h
  | no => exact h.elim
theorem wpS_mono {r : RsS} (h : wpS r R G) (w : ∀ a S, R a S → R' a S) (v : ∀ e env S, G e env S → G' e env S) : wpS r R' G' := by
  cases r with
  | ok a S => exact w a S h
  | ex e env S => exact v e env S h
  | no => exact h.elim
theorem wp_bd {m : M β} {k : β → M α} : wp (bd m k S) Q E = wp (m S) (fun a S' => wp (k a S') Q E) E := by
  simp only [bd]; cases m S <;> rfl
theorem wp_bdN {m : M β} {k : β → M α} : wp (bdN m k S) Q E = wp (m S) (fun a S' => wp (k a S') Q E) nE := by
  simp only [bdN]; cases m S <;> rfl
theorem wp_pur {a : α} : wp (pur a S) Q E = Q a S := rfl
theorem wp_some {a : α} : wp (opt (some a) S) Q E = Q a S := rfl
theorem wpS_lft {m : M β} {k : β → MS} : wpS (lft m env k S) R G = wp (m S) (fun a S' => wpS (k a S') R G) (fun e S' => G e env S') := by
  simp only [lft]; cases m S <;> rfl
/-- what follows -/
def sqQ (g : Env → MS) (R : Fl → Store → Prop) (G : Ex → Env → Store → Prop) : Fl → Store → Prop := fun fl S => match fl with
  | .nx env => wpS (g env S) R G
  | fl => R fl S
theorem sqQ_nx {g : Env → MS} : sqQ g R G (.nx env) S = wpS (g env S) R G := rfl
theorem sqQ_rt {g : Env → MS} {d : D} : sqQ g R G (.rt d) S = R (.rt d) S := rfl
theorem sqQ_bk {g : Env → MS} : sqQ g R G (.bk env) S = R (.bk env) S := rfl
theorem sqQ_ct {g : Env → MS} : sqQ g R G (.ct env) S = R (.ct env) S := rfl
theorem wpS_seq {g g' : Env → MS} : wpS (seqS g g' env S) R G = wpS (g env S) (sqQ g' R G) G := by
  simp only [seqS]
  cases g env S with
  | ok f S => cases f <;> rfl
  | ex _ _ _ => rfl
  | no => rfl
/-- what a def's end is -/
def flQ (Q : D → Store → Prop) : Fl → Store → Prop := fun fl S => match fl with
  | .rt d => Q d S
  | .nx _ => Q .non S
  | _ => False
variable {P : D → Store → Prop}
theorem flQ_rt {d : D} : flQ P (.rt d) S = P d S := rfl
theorem flQ_nx : flQ P (.nx env) S = P .non S := rfl
theorem wp_body {n m : Nat} {b : Env → MS} {ds : List D} : wp (bodyD n m b ds S) P E = (ds.length = m ∧ wpS (b (ent n ds) S) (flQ P) (fun e _ S' => E e S')) := by
  simp only [bodyD]
  by_cases h : ds.length = m
  · rw [if_pos h]
    simp only [h, true_and]
    cases b (ent n ds) S with
    | ok f S => cases f <;> rfl
    | ex _ _ _ => rfl
    | no => rfl
  · rw [if_neg h]
    simp only [h, false_and]
    rfl
theorem wpS_if {p : Env → M Bool} {g g' : Env → MS} : wpS (ifS p g g' env S) R G = wp (p env S) (fun b S' => (b = true → wpS (g env S') R G) ∧ (b = false → wpS (g' env S') R G)) (fun e S' => G e env S') := by
  simp only [ifS, wpS_lft]
  congr 1
  funext b S'
  cases b <;> simp
theorem wp_ite {p : Env → M Bool} {f g : Env → M D} : wp (iteV p f g env S) P E = wp (p env S) (fun b S' => (b = true → wp (f env S') P E) ∧ (b = false → wp (g env S') P E)) E := by
  simp only [iteV, wp_bd]
  congr 1
  funext b S'
  cases b <;> simp
theorem wp_andB {p q : Env → M Bool} {B : Bool → Store → Prop} : wp (andB p q env S) B E = wp (p env S) (fun b S' => (b = true → wp (q env S') B E) ∧ (b = false → B false S')) E := by
  simp only [andB, wp_bd]
  congr 1
  funext b S'
  cases b <;> simp [wp_pur]
theorem wp_orB {p q : Env → M Bool} {B : Bool → Store → Prop} : wp (orB p q env S) B E = wp (p env S) (fun b S' => (b = true → B true S') ∧ (b = false → wp (q env S') B E)) E := by
  simp only [orB, wp_bd]
  congr 1
  funext b S'
  cases b <;> simp [wp_pur]
theorem wp_notB {p : Env → M Bool} {B : Bool → Store → Prop} : wp (notB p env S) B E = wp (p env S) (fun b S' => B (!b) S') E := by
  simp only [notB, wp_bd, wp_pur]
theorem wp_tst {f : Env → M D} {B : Bool → Store → Prop} : wp (tst f env S) B E = wp (f env S) (fun d S' => wp (asB d S') B E) E := by
  simp only [tst, wp_bd]
theorem wp_asB {b : Bool} {B : Bool → Store → Prop} : wp (asB (.bl b) S) B E = B b S := rfl
theorem wp_andV {f g : Env → M D} : wp (andV f g env S) P E = wp (f env S) (fun d S' => wp (asB d S') (fun b S'' => (b = true → wp (g env S'') P E) ∧ (b = false → P (.bl false) S'')) E) E := by
  simp only [andV, wp_bd]
  congr 1
  funext d S'
  congr 1
  funext b S''
  cases b <;> simp [wp_pur]
theorem wp_orV {f g : Env → M D} : wp (orV f g env S) P E = wp (f env S) (fun d S' => wp (asB d S') (fun b S'' => (b = true → P (.bl true) S'') ∧ (b = false → wp (g env S'') P E)) E) E := by
  simp only [orV, wp_bd]
  congr 1
  funext d S'
  congr 1
  funext b S''
  cases b <;> simp [wp_pur]
theorem wp_notV {f : Env → M D} : wp (notV f env S) P E = wp (f env S) (fun d S' => wp (asB d S') (fun b S'' => P (.bl (!b)) S'') E) E := by
  simp only [notV, wp_bd, wp_pur]
theorem wp_getv {i : Nat} {d : D} (h : env[i]? = some (some d)) : wp (getv i env S) P E = P d S := by
  simp only [getv, h, wp_pur]
theorem wp_ifm {c : Prop} [Decidable c] {m : M α} : wp ((if c then m else mno : M α) S) Q E = (c ∧ wp (m S) Q E) := by
  by_cases h : c
  · simp [h]
  · simp [h, mno, wp]
theorem wp_mkL {ds : List D} : wp (mkL ds S) P E = (ds.length ≤ sizeLine ∧ P (.lst ds) S) := by unfold mkL; rw [wp_ifm]; rfl
theorem wp_mkT {ds : List D} : wp (mkT ds S) P E = (ds.length ≤ sizeLine ∧ P (.tup ds) S) := by unfold mkT; rw [wp_ifm]; rfl
theorem wp_mkO {od : OD} : wp (mkO od S) P E = P (.obj S.length) (S ++ [some od]) := rfl
theorem wp_mkN {ds : List D} : wp (mkN ds S) P E = (ds.length ≤ sizeLine ∧ P (.obj S.length) (S ++ [some (.lst ds)])) := by unfold mkN; rw [wp_ifm]; rfl
theorem wp_heard {w : Str} {tab : List (String × Bool)} {qf : Ex → M D} {m : M D} : wp (heardM w tab qf m S) P E = wp (m S) (fun d S' => P (.tup [.str w, d]) S') (fun e S' => tab.lookup e.cls = some true ∧ wp (qf e S') P nE) := by
  simp only [heardM]
  cases m S with
  | ok d S' => rfl
  | ex e S' =>
    by_cases h : tab.lookup e.cls = some true
    · simp only [if_pos h, wp_ex, h, true_and]
      cases qf e S' <;> rfl
    · simp only [if_neg h, wp_ex, h, false_and]
      rfl
  | no => rfl
theorem wpS_try {tab : List (String × Bool)} {b g : Env → MS} : wpS (tryO tab b g env S) R G = wpS (b env S) R (fun e env' S' => match tab.lookup e.cls with
    | some true => wpS (g env' S') R nES
    | some false => G e env' S'
    | none => False) := by
  simp only [tryO]
  cases b env S with
  | ok f S' => rfl
  | ex e env' S' =>
    simp only [wpS_ex]
    cases tab.lookup e.cls with
    | none => rfl
    | some v =>
      cases v with
      | false => rfl
      | true =>
        simp only
        cases g env' S' <;> rfl
  | no => rfl
theorem wp_for {m : Env → M (List D)} {t : D → Env → Option Env} {b : Env → MS} : wpS (forS m t b env S) R G = wp (m env S) (fun ds S' => wpS (loop t b ds env S') R G) (fun e S' => G e env S') := by
  simp only [forS, wpS_lft]
theorem wp_loop (I : Nat → Env → Store → Prop) {t : D → Env → Option Env} {b : Env → MS} : ∀ (ds : List D) (i : Nat) (env : Env) (S : Store), I i env S →
    (∀ k d env S, ds[k]? = some d → I (i + k) env S → ∃ env1, t d env = some env1 ∧ wpS (b env1 S) (fun fl S' => match fl with
      | .nx e => I (i + k + 1) e S'
      | .ct e => I (i + k + 1) e S'
      | .bk e => R (.nx e) S'
      | .rt d => R (.rt d) S') G) →
    (∀ env S, I (i + ds.length) env S → R (.nx env) S) → wpS (loop t b ds env S) R G
  | [], i, env, S, h, _, e => e env S h
  | d :: ds, i, env, S, h, step, e => by
    obtain ⟨env1, h1, h2⟩ := step 0 d env S rfl h
    have rest : ∀ env S, I (i + 1) env S → wpS (loop t b ds env S) R G := fun env S hi =>
      wp_loop I ds (i + 1) env S hi (fun k d env S hk hI => by
        obtain ⟨env1, g1, g2⟩ := step (k + 1) d env S hk (by rw [show i + (k + 1) = i + 1 + k by omega]; exact hI)
        refine ⟨env1, g1, ?_⟩
        rw [show i + 1 + k + 1 = i + (k + 1) + 1 by omega]
        exact g2) (fun env S hI => e env S (by rw [List.length_cons, show i + (ds.length + 1) = i + 1 + ds.length by omega]; exact hI))
    unfold loop
    simp only [h1]
    cases q : b env1 S with
    | no => rw [q] at h2; exact h2.elim
    | ex x env3 S3 => rw [q] at h2; exact h2
    | ok fl S' =>
      rw [q] at h2
      cases fl with
      | nx e2 => exact rest e2 S' h2
      | ct e2 => exact rest e2 S' h2
      | bk e2 => exact h2
      | rt d2 => exact h2
theorem wp_cmp {vs : List Nat} {mk : List D → M D} {m : Env → M (List D)} {t : D → Env → Option Env} {c : Env → M Bool} {el : Env → M D} : wp (cmp vs mk m t c el env S) P E = wp (m env S) (fun ds S' => wp (compL mk t c el (wipeE env vs) ds [] S') P E) E := by
  simp only [cmp, wp_bd]
theorem wp_comp (I : Nat → List D → Store → Prop) {mk : List D → M D} {t : D → Env → Option Env} {c : Env → M Bool} {el : Env → M D} {env0 : Env} (n : Nat) (hn : n ≤ sizeLine) : ∀ (ds : List D) (i : Nat) (acc : List D) (S : Store), i + ds.length = n → acc.length ≤ i → I i acc S →
    (∀ k d acc S, ds[k]? = some d → acc.length ≤ i + k → I (i + k) acc S → ∃ env1, t d env0 = some env1 ∧ wp (c env1 S) (fun b S' => (b = true → wp (el env1 S') (fun y S'' => I (i + k + 1) (acc ++ [y]) S'') nE) ∧ (b = false → I (i + k + 1) acc S')) nE) →
    (∀ acc S, acc.length ≤ n → I n acc S → wp (mk acc S) P E) → wp (compL mk t c el env0 ds acc S) P E
  | [], i, acc, S, hi, ha, h, _, e => by
    have : i = n := by simpa using hi
    subst this
    exact e acc S ha h
  | d :: ds, i, acc, S, hi, ha, h, step, e => by
    obtain ⟨env1, h1, h2⟩ := step 0 d acc S rfl ha h
    have hi' : i + 1 + ds.length = n := by simp at hi; omega
    have rest : ∀ acc S, acc.length ≤ i + 1 → I (i + 1) acc S → wp (compL mk t c el env0 ds acc S) P E := fun acc S ha hI =>
      wp_comp I n hn ds (i + 1) acc S hi' ha hI (fun k d acc S hk ha hI => by
        obtain ⟨env1, g1, g2⟩ := step (k + 1) d acc S hk (by omega) (by rw [show i + (k + 1) = i + 1 + k by omega]; exact hI)
        refine ⟨env1, g1, ?_⟩
        rw [show i + 1 + k + 1 = i + (k + 1) + 1 by omega]
        exact g2) e
    obtain ⟨b, S', h3, h4⟩ := wp_out h2
    unfold compL
    simp only [h1, wp_bdN, h3, wp_ok]
    cases b with
    | false => simpa using rest acc S' (by omega) (h4.2 rfl)
    | true =>
      simp only [if_true, wp_bdN]
      refine wp_mono (h4.1 rfl) (fun y S'' hI => ?_) (fun _ _ z => z)
      have : acc.length < sizeLine := by simp at hi; omega
      rw [if_pos this]
      exact rest _ _ (by simp; omega) hI
/-- without a test -/
theorem wp_map (I : Nat → List D → Store → Prop) {mk : List D → M D} {t : D → Env → Option Env} {el : Env → M D} {env0 : Env} {ds : List D} {S : Store} (hn : ds.length ≤ sizeLine) (h0 : I 0 [] S)
    (step : ∀ k d acc S, ds[k]? = some d → acc.length ≤ k → I k acc S → ∃ env1, t d env0 = some env1 ∧ wp (el env1 S) (fun y S' => I (k + 1) (acc ++ [y]) S') nE)
    (e : ∀ acc S, acc.length ≤ ds.length → I ds.length acc S → wp (mk acc S) P E) : wp (compL mk t (fun _ => pur true) el env0 ds [] S) P E :=
  wp_comp I ds.length hn ds 0 [] S (by simp) (by simp) h0 (fun k d acc S hk ha hI => by
    rw [Nat.zero_add] at ha hI ⊢
    obtain ⟨env1, h1, h2⟩ := step k d acc S hk ha hI
    exact ⟨env1, h1, fun _ => h2, fun z => by cases z⟩) e
/-- a dict comprehension without a test -/
theorem wp_mapD (I : Nat → List (Key × D) → Store → Prop) {t : D → Env → Option Env} {kx vx : Env → M D} {env0 : Env} : ∀ (ds : List D) (i : Nat) (acc : List (Key × D)) (S : Store), acc.length ≤ i → i + ds.length ≤ sizeLine → I i acc S →
    (∀ k d acc S, ds[k]? = some d → I (i + k) acc S → ∃ env1, t d env0 = some env1 ∧ wp (kx env1 S) (fun y S' => wp (vx env1 S') (fun z S'' => ∃ q, keyOf y = some q ∧ I (i + k + 1) (putD acc q z) S'') nE) nE) →
    (∀ acc S, I (i + ds.length) acc S → P (.obj S.length) (S ++ [some (.dct acc)])) → wp (compD t (fun _ => pur true) kx vx env0 ds acc S) P E
  | [], i, acc, S, _, _, h, _, e => e acc S h
  | d :: ds, i, acc, S, ha, hl, h, step, e => by
    obtain ⟨env1, h1, h2⟩ := step 0 d acc S rfl h
    unfold compD
    simp only [h1, wp_bdN, wp_pur, if_true]
    refine wp_mono h2 (fun y S1 h3 => ?_) (fun _ _ z => z)
    refine wp_mono h3 (fun z S2 ⟨q, h4, h5⟩ => ?_) (fun _ _ z => z)
    simp only [h4, wp_some]
    have hlt : acc.length < sizeLine := by simp at hl; omega
    rw [if_pos hlt]
    refine wp_mapD I ds (i + 1) _ S2 ?_ (by simp at hl; omega) h5 (fun k d acc S hk hI => ?_) (fun acc S hI => e acc S (by rw [List.length_cons, show i + (ds.length + 1) = i + 1 + ds.length by omega]; exact hI))
    · unfold putD
      split
      · simp; omega
      · simp; omega
    · obtain ⟨env1, g1, g2⟩ := step (k + 1) d acc S hk (by rw [show i + (k + 1) = i + 1 + k by omega]; exact hI)
      refine ⟨env1, g1, ?_⟩
      rw [show i + 1 + k + 1 = i + (k + 1) + 1 by omega]
      exact g2
end
end Fx

end
/-! ## Fx20 -/
section
namespace Fx
open PySem PySem.Spec PyProof.Rows L2
variable [tb : Tabl]
/-! ### x(lambda: body), x: found = (w0,); try: found = (w, a()) except C as e: suite (it sets found); return found -/
def TOut (K : PySem.W.Frag) (mg : Str → Option Value) (w0 w : Str) (tab : List (String × Bool)) (qf : Ex → M D) : (XK → Hp → VK → Prop) → Hp → VK → Prop := fun tl H Q =>
  ([.str w0] : List V).length ≤ sizeLine ∧ ∀ (p0 : Addr) (o0 : Obj), H p0 = none → o0.dict = none → tl (EQ K mg tab qf Q) (upd H p0 (.frz o0 (.tup [.str w0]))) fun v H1 => ([.str w, v] : List V).length ≤ sizeLine ∧ ∀ (p : Addr) (o : Obj), H1 p = none → o.dict = none → Q (.ref p) (upd H1 p (.frz o (.tup [.str w, v])))
section
variable {X : Cx} {W : WX} {x a en fn cl wd w0 : Str} {st : Stmt} {Ng : List Str} {CL : Addr} {tab : List (String × Bool)} {qf : Ex → M D} {sgf : Addr → Addr → String → Env → MS} {j kt j0 kt0 k ifn ie : Nat} {p1 p2 p3 p4 p5 p6 p7 p8 q1 q2 q3 q4 q5 q6 q7 p lpos pos : Pos} {b₀ : Stmt} {suite : List Stmt}
theorem out_gives {g : Addr} {cdg : Value} {q : Str} (Sg : FnScope Ng [a] (defScope st)) (hN1 : Ng[ie]? = some en) (hNf : Ng[ifn]? = some fn) (hif : ifn ≠ 0) (hie : ie ≠ ifn) (hloc : (defScope st).names.lookup en = some .local) (hlocf : (defScope st).names.lookup fn = some .local) (hgc : (defScope st).names.lookup cl = some .globalImplicit) (hmc : X.mg cl = some (.ref CL)) (hdc : (cl == ("__debug__" : Str)) = false)
    (ht : ∀ p ∈ tab, SubX X.K X.mg p.1 (.ref CL) p.2) (hu : X.A.units + 100 < cLine) (hsu : SuiteOk X.prog X.w X.K X.mg X.base x (defScope st) Ng (b₀ :: suite) sgf) (h0 : ∀ f : Addr, (L2.start Ng [V.ref f])[0]? = some (some (V.ref f)))
    (hfd : (fn == ("__debug__" : Str)) = false) (hfc : (fn == ("__classdict__" : Str)) = false) (hlen : (L2.start Ng [V.ref (0 : Addr)]).length = Ng.length)
    (hq : ∀ a dd e S d S', qf e S = .ok d S' → ∃ env', sgf a dd e.cls ((List.replicate Ng.length none).set ie (some (.err a dd (e.fs.map (·.1)) (e.fs.map (·.2))))) S = .ok (.nx env') S' ∧ env'[ifn]? = some (some d)) :
    LamX.GivesTo X Ng x (defScope st) g cdg [.Assign [.Name fn q1] (.Tuple [.Constant (.str w0) j0 q2] kt0 q3) q4, .Try [.Assign [.Name fn q5] (.Tuple [.Constant (.str wd) j p5, .Call (.Name a p1) [] [] p2] kt p6) p3] [.ExceptHandler (some (.Name cl p4)) (some en) (b₀ :: suite) p7] [] [] p8, .Return (some (.Name fn q6)) q7] a q (TOut X.K X.mg w0 wd tab qf) := by
  intro f c' s H0 Q tl act hc h
  let Y : Cx := (cxOf C8.CX0 X.prog X.w X.K X.mg X.base Ng x (defScope st) g cdg X.A X.stack s H0 C8.E0).nox
  have hgl : Gl Y cl := hgc
  have hll : ∀ f : Addr, (L2.start Ng [V.ref f]).length = Ng.length := fun _ => hlen
  have ltf : ifn < Ng.length := lt_of_some hNf
  have r1 := ps_set (X := Y) (i := ifn) (x := fn) (pos' := q1) (pos := q4) Sg.nd hNf (.inl hlocf) (pe_tupC (x1 := kt0) (pos := q3) (pa_cons (pe_str (x := w0) (j := j0) (pos := q2)) pa_nil)) (by rfl) (.inr hlocf)
  have r3 := ps_ret (X := Y) (pos := q7) (pe_var (X := Y) (i := ifn) (x := fn) (pos := q6) hNf (.inl hlocf) hfd hfc)
  refine ⟨_, pss_cons r1 (pss_cons (ps_try_as (X := Y) (c := .ref CL) (i := ie)
      (tb := fun W D σ H => ∃ Ech : XK, (∀ cls d σ' H', Ech cls d H' → W cls d σ' H') ∧ σ[0]? = some (some (.ref f)) ∧ H c' = some (LamX.CodeO c' q) ∧ tl Ech H fun v H1 => ([.str wd, v] : List V).length ≤ sizeLine ∧ ∀ (p : Addr) (o : Obj), H1 p = none → o.dict = none → D.nx (σ.set ifn (some (.ref p))) (upd H1 p (.frz o (.tup [.str wd, v]))))
      (ts := fun a cls d D σ H => σ.length = Ng.length → ∃ C dd y, cls = .ref C ∧ d = some dd ∧ X.mg (Str.ofString y) = some (.ref C) ∧ tS Y W0 (sgf a dd y) D σ H)
      rfl rfl Sg.nd hN1 hloc ⟨hgl, hdc, .inl hmc⟩ LamX.takes0 (fun W pn xe tk _ => ?_) (fun a' oe cls d pn hz hf => ?_)) (pss_one r3)), ?_⟩
  · refine ⟨fun pins s' σ H' D I ⟨Ech, hW, e1, e2, e3⟩ => ?_⟩
    have hp := act W pn xe Ech p1 p2 tk hW
    have hq := pss_one (ps_set (X := Y.tr pn xe) (i := ifn) (x := fn) (pos' := q5) (pos := p3) Sg.nd hNf (.inl hlocf) (pe_tupC (x1 := kt) (pos := p6) (pa_cons (pe_str (x := wd) (j := j) (pos := p5)) (pa_cons hp pa_nil))) (by rfl) (.inr hlocf))
    refine hq.run pins s' σ H' D I ?_
    exact ⟨e1, e2, e3⟩
  · refine PSs.weakI ⟨fun pins s' σ H' D I h' => ?_⟩ fun D σ H hl h' => (h' hl)
    obtain ⟨C, dd, y, rfl, rfl, hy, h'⟩ := h'
    exact (hsu g cdg X.A X.stack s H0 a' oe dd C y pn hu hz hf hy).run.run pins s' σ H' D I h'
  · obtain ⟨hs0, h⟩ := h
    refine ⟨hs0, fun p0 o0 hp0 ho0 => ?_⟩
    have hne : c' ≠ p0 := fun z => by rw [z, hp0] at hc; cases hc
    refine ⟨EQ X.K X.mg tab qf Q, fun cls d σ' H' ⟨F, ad, S, e, r, S', rs, er, htt, hqf, hfin⟩ => ⟨true, exm_tab ht er htt, fun _ a' ha' hl => ?_, fun z => nomatch z⟩, ?_, ?_, ?_⟩
    · have er0 := er
      obtain ⟨C, dd, fs, m1, m2, m3, m4, m5, m6⟩ := er
      have hl' : ie < σ'.length := by rw [List.length_set] at hl; rw [hl]; exact lt_of_some hN1
      have de : DP X.K F ad S.length (.err a' dd (e.fs.map (·.1)) (e.fs.map (·.2))) (.ref a') := ⟨rfl, fs, m4, m5, m6⟩
      refine ⟨C, dd, e.cls, m2, m3, m1, F, ad, _, S, re_one (n := Ng.length) (List.getElem?_set_self hl') de, rs, ?_⟩
      obtain ⟨env', hq1, hq2⟩ := hq a' dd e S r S' hqf
      rw [hq1]
      intro σ2 F' ad' H2 n2 r2 re2 l2
      obtain ⟨v, hv, dv⟩ := re2 ifn r hq2
      refine ⟨v, ?_, hfin v F' ad' H2 n2 r2 dv⟩
      rw [List.getElem?_set_ne hie]; exact hv
    · rw [List.getElem?_set_ne hif]; exact h0 f
    · rw [upd, if_neg hne]; exact hc
    · refine (congrArg (tl _ _) (funext fun v => funext fun H1 => propext ?_)).mp (h p0 o0 hp0 ho0)
      have hl1 : ifn < ((L2.start Ng [V.ref f]).set ifn (some (V.ref p0))).length := by rw [List.length_set, hll]; exact ltf
      constructor
      · rintro ⟨z1, z2⟩
        exact ⟨z1, fun p o hp ho => ⟨.ref p, List.getElem?_set_self hl1, z2 p o hp ho⟩⟩
      · rintro ⟨z1, z2⟩
        refine ⟨z1, fun p o hp ho => ?_⟩
        obtain ⟨v', e, z3⟩ := z2 p o hp ho
        rw [List.getElem?_set_self hl1] at e
        cases e
        exact z3
/-- x(lambda: body) -/
theorem fe_out {c P : Addr} {params : Arguments} {body : Expr} {scope : Scope} {fb : Env → M D} (T0 : DefAt X.K X.mg x st [a]) (Sg : FnScope Ng [a] (defScope st))
    (hbd : defBody st = [.Assign [.Name fn q1] (.Tuple [.Constant (.str w0) j0 q2] kt0 q3) q4, .Try [.Assign [.Name fn q5] (.Tuple [.Constant (.str wd) j p5, .Call (.Name a p1) [] [] p2] kt p6) p3] [.ExceptHandler (some (.Name cl p4)) (some en) (b₀ :: suite) p7] [] [] p8, .Return (some (.Name fn q6)) q7])
    (hN0 : Ng[0]? = some a) (hN1 : Ng[ie]? = some en) (hNf : Ng[ifn]? = some fn) (hif : ifn ≠ 0) (hie : ie ≠ ifn) (hloc : (defScope st).names.lookup en = some .local) (hlocf : (defScope st).names.lookup fn = some .local) (hgc : (defScope st).names.lookup cl = some .globalImplicit) (hmc : X.mg cl = some (.ref CL)) (hdc : (cl == ("__debug__" : Str)) = false)
    (ht : ∀ p ∈ tab, SubX X.K X.mg p.1 (.ref CL) p.2) (hsu : SuiteOk X.prog X.w X.K X.mg X.base x (defScope st) Ng (b₀ :: suite) sgf) (h0 : ∀ f : Addr, (L2.start Ng [V.ref f])[0]? = some (some (V.ref f)))
    (hfd : (fn == ("__debug__" : Str)) = false) (hfc : (fn == ("__classdict__" : Str)) = false) (hlen : (L2.start Ng [V.ref (0 : Addr)]).length = Ng.length)
    (hq : ∀ a dd e S d S', qf e S = .ok d S' → ∃ env', sgf a dd e.cls ((List.replicate Ng.length none).set ie (some (.err a dd (e.fs.map (·.1)) (e.fs.map (·.2))))) S = .ok (.nx env') S' ∧ env'[ifn]? = some (some d))
    (hg : Gl X x) (TB : LamX.TabB X.base X.mg c P) (hcode : X.env.code = .ref c) (hmT : (P, X.env.qual ++ "<lambda>") ∈ tb.T) (hun : ∀ p ∈ tb.T, p.1 = P → p.2 = X.env.qual ++ "<lambda>") (hr : Room (k + 2) X.A) (L : LamX.LamS X.env.scope scope) (hdef : defaultsOf params X.env = ([], []))
    (hbind : ∀ (q : Str) (cl : List (Str × Addr)) (pm cv ctv : Value), bindArgs (PySem.W.kla_fn "<lambda>" q params body scope cl pm cv ctv) ⟨[], []⟩ = pure [])
    (hbody : ∀ (A : Around) (outer : List PySem.Env) (s : Shared) (H : Hp) (E : XK) (f c' : Addr), Room k (A.deeper (LamX.lamEnv X scope s.heap.objs.size f c')) → FE (LamX.lamCx X A outer s H E scope f c') (WE E) body fb)
    (hd : (a == ("__debug__" : Str)) = false := by decide) (hcd : (a == ("__classdict__" : Str)) = false := by decide) (hdb : (x == ("__debug__" : Str)) = false := by decide) :
    FE X W (.Call (.Name x p) [.Lambda params body scope lpos] [] pos) (fun env => heardM wd tab qf (fb env)) := by
  obtain ⟨g, fd, m1, F, B⟩ := T0.ex
  obtain ⟨oc, od, kV, doc, pm, an, cdv, ct, osl, rfl, lk, hcg⟩ := F.ex
  have hG := out_gives (g := g) (cdg := cdv) (q := X.env.qual ++ "<lambda>") (wd := wd) (w0 := w0) (qf := qf) (j := j) (kt := kt) (j0 := j0) (kt0 := kt0) (p1 := p1) (p2 := p2) (p3 := p3) (p4 := p4) (p5 := p5) (p6 := p6) (p7 := p7) (p8 := p8) (q1 := q1) (q2 := q2) (q3 := q3) (q4 := q4) (q5 := q5) (q6 := q6) (q7 := q7) Sg hN1 hNf hif hie hloc hlocf hgc hmc hdc ht (by have := hr.un; omega) hsu h0 hfd hfc hlen hq
  rw [← hbd] at hG
  have hva : Vis (defScope st) a := vis_par Sg (by simp)
  refine ⟨PE.weak (LamX.pe_lamcall (T := tb.T) (t := fun E => tF X (WE E) fb) hg m1 F.kp lk hcg B Sg hN0 hva hG TB hcode hmT hun hr L hdef hbind (fun A outer s H E f c' hr2 => (hbody A outer s H E f c' hr2).run) hdb hd hcd) fun σ H Q ⟨F, ad, env, S, re, rs, h⟩ => ?_⟩
  refine ⟨rs.tab, fun H1 x1 t1 => ⟨by show 1 ≤ sizeLine; decide, fun p0 o0 hp0 ho0 => ?_⟩⟩
  have rs1 := rs_ext rs x1 t1
  have n1 : Nx F ad S H F ad S H1 := nx_ext (K := X.K) x1
  have na := Nx.alloc (o := HO.frz o0 (.tup [.str w0])) rs1 hp0
  have rs2 := rs1.alloc (o := HO.frz o0 (.tup [.str w0])) hp0
  have n2 := n1.trans na
  refine ⟨_, ad, env, S, RE.mono na.gr re, rs2, ?_⟩
  simp only [heardM] at h
  cases q : fb env S with
  | no => rw [q] at h; exact h
  | ok d S' =>
    rw [q] at h
    refine fun v F' ad' H' n3 r3 d3 => ⟨by show 2 ≤ sizeLine; decide, fun t o ht ho => ?_⟩
    exact h (.ref t) (upd F' t (.frz o (.tup [.str wd, v]))) ad' _ ((n2.trans n3).trans (Nx.alloc r3 ht)) (r3.alloc ht) ⟨t, [.str wd, v], rfl, .inl ⟨o, upd_same, ho⟩, .str wd, [v], rfl, rfl, v, [], rfl, DP.mono (Gr.alloc (F_none r3 ht)) d v d3, rfl⟩
  | ex e S' =>
    rw [q] at h
    simp only at h
    refine fun cls dd F' ad' H' n3 r3 er => ?_
    by_cases c : tab.lookup e.cls = some true
    · rw [if_pos c] at h
      cases q2 : qf e S' with
      | no => rw [q2] at h; exact h.elim
      | ex _ _ => rw [q2] at h; exact h.elim
      | ok r S2 =>
        rw [q2] at h
        exact ⟨F', ad', S', e, r, S2, r3, er, c, q2, fun v F2 ad2 H2 n4 r4 d4 => h v F2 ad2 H2 ((n2.trans n3).trans n4) r4 d4⟩
    · rw [if_neg c] at h; exact h.elim
end
/-- an instance of x is one of a built-in type -/
structure KitBAt (K : PySem.W.Frag) (mg : Str → Option Value) (x : String) (T : String) (b : Bool) : Prop where
  ex : ∃ C, mg (Str.ofString x) = some (.ref C) ∧ PySem.W.kitOne K (.ref C) (.type T) = some b
section
variable {X : Cx} {a dd C : Addr} {oe : Obj} {pn : List (Addr × Obj)} {i : Nat} {n : Str} {p p2 pos : Pos}
theorem fe_isEB {x : String} {T : String} {y : Str} {fs : List Str} {tab : List (String × Bool)} {W : WX} {py : Pos} (L : XLook X.K X.mg x fs) (hx : X.mg (Str.ofString x) = some (.ref C)) (ht : ∀ p ∈ tab, KitBAt X.K X.mg p.1 T p.2) (hz : Zc (.ref C) (some dd) oe) (hf : ∃ vs, oe.data = .fields vs)
    (hg : Gl X "isinstance") (hm : X.mg "isinstance" = none) (hgy : Gl X y) (hmy : X.mg y = none) (hby : bootBuiltins y = some (.type T)) (hN : X.N[i]? = some n) (hv : Vis X.env.scope n) (hny : y ≠ "__name__" := by decide) (hd : (n == ("__debug__" : Str)) = false := by decide) (hcd : (n == ("__classdict__" : Str)) = false := by decide) (hdy : (y == ("__debug__" : Str)) = false := by decide)
    (he : starEach [Expr.Name n p2, Expr.Name y py] X.env = (false, eval (Expr.Name n p2) X.env) :: starEach [Expr.Name y py] X.env := by rfl) (hpl : (backTo pos (starEach [Expr.Name y py] X.env)).any (·.1) = false := by rfl) :
    FE (X.suite a ((a, oe) :: pn)) W (.Call (.Name "isinstance" p) [.Name n p2, .Name y py] [] pos) (isE a dd i (tab.lookup x)) := by
  obtain ⟨C', e1, xf, ec, _⟩ := L.ex
  rw [hx] at e1; cases e1
  have key := isE_key (X := X) (a := a) (dd := dd) (oe := oe) (pn := pn) (i := i) (W := W) (r := tab.lookup x)
  cases q : tab.lookup x with
  | none =>
    refine ⟨⟨fun pins s σ H Q I ⟨F, ad, env, S, re, rs, h⟩ => ?_⟩⟩
    rw [← q] at h
    obtain ⟨b, _, e, _⟩ := key F ad env S σ H Q re rs h
    rw [q] at e; cases e
  | some b =>
    obtain ⟨C2, k1, k3⟩ := (ht _ (mem_lk q)).ex
    rw [hx] at k1; cases k1
    have P1 : PE (X.suite a ((a, oe) :: pn)) (.Name y py) (tC (.ty T)) := pe_bltn hgy hmy hby rfl hny hdy
    refine ⟨PE.weak (pe_callB (call_isF ec hz hf) hg hm bo_isinstance (pa_cons (pe_var (i := i) hN hv hd hcd) (pa_cons P1 pa_nil)) (he := he) (hpl := hpl)) fun σ H Q ⟨F, ad, env, S, re, rs, h⟩ => ?_⟩
    rw [← q] at h
    obtain ⟨b', vs, e, s1, s2, qq⟩ := key F ad env S σ H Q re rs h
    rw [q] at e; cases e
    exact ⟨.ref a, s1, .ty T, .type T, b, vs, rfl, .ty T, s2, k3, qq⟩
end
theorem bo_ValueError : bootBuiltins "ValueError" = some (.type "ValueError") := by decide +kernel
end Fx

end
/-! ## Fx21 -/
section
namespace Fx
open PySem PySem.Spec PyProof.Rows L2
variable [tb : Tabl]
/-! ### x.pop() -/
theorem DPs.dropLast {K F ad L} : ∀ {ds : List D} {vs : List V}, DPs K F ad L ds vs → DPs K F ad L ds.dropLast vs.dropLast
  | [], _, h => by cases h; exact rfl
  | [d], _, h => by obtain ⟨v, r, rfl, h1, h2⟩ := h; cases h2; exact rfl
  | d :: e :: ds, _, h => by
    obtain ⟨v, r, rfl, h1, h2⟩ := h
    obtain ⟨u, q, rfl, h3, h4⟩ := h2
    exact ⟨v, _, rfl, h1, DPs.dropLast (ds := e :: ds) ⟨u, q, rfl, h3, h4⟩⟩
def pop0 (f : Env → M D) : Env → M D := fun env => bd (f env) fun x => bd (objL x) fun c => match c.2[c.2.length - 1]? with
  | some y => putL c.1 c.2.dropLast y
  | none => mno
section
variable {X : Cx} {W : WX} {a b : Expr} {f f2 : Env → M D}
theorem fe_pop0 {apos cpos : Pos} (ho : FE X W a f) (hbase : attributeBase a "pop" X.env (eval a X.env) = eval a X.env := by rfl) (hline : (apos.endLine == cpos.line) = true := by rfl) : FE X W (.Call (.Attribute a "pop" apos) [] [] cpos) (pop0 f) := by
  refine ⟨PE.weak (pe_bm0 PySem.F.plainAttrs_list PySem.F.slot_list_pop PySem.F.type_list_pop mt_pop ho.run hbase hline) fun σ H Q ⟨F, ad, env, S, re, rs, h⟩ => ⟨F, ad, env, S, re, rs, Fin.seq re h fun F1 ad1 S1 x v H1 n1 re1 rs1 dp1 h1 => ?_⟩⟩
  obtain ⟨c, S2, e0, h1⟩ := Fin.look h1 fun _ _ => objL_ex
  obtain ⟨rfl, q0, vs, ev, hH, dw⟩ := objL_at rs1 dp1 e0
  cases hy : c.2[c.2.length - 1]? with
  | none => rw [hy] at h1; exact h1.elim
  | some y =>
    rw [hy] at h1
    obtain ⟨u, e3, d3⟩ := dw.at hy
    refine ⟨by rw [ev]; exact .inl ⟨rfl, _, SqL.of hH⟩, ad1 c.1, vs, u, ev, rfl, hH, by rw [← dw.length]; exact e3, fin_putL rs1 q0 dw.dropLast d3 h1⟩
end
/-! ### the truth of any value -/
def truM (d : D) : M Bool := fun S => match d with
  | .non => .ok false S
  | .bl b => .ok b S
  | .int i => .ok (i != 0) S
  | .str x => if x.length ≤ sizeLine then .ok ((x.length : Int) != 0) S else .no
  | .lst ds => .ok (!ds.isEmpty) S
  | .tup ds => .ok (!ds.isEmpty) S
  | .utp ds => .ok (!ds.isEmpty) S
  | .obj n => match S[n]? with
    | some (some (.lst ds)) => .ok (!ds.isEmpty) S
    | some (some (.dct kvs)) => .ok (!kvs.isEmpty) S
    | _ => .no
  | _ => .no
theorem DPs.isE {K F ad L} {ds : List D} {vs : List V} (h : DPs K F ad L ds vs) : (!ds.isEmpty) = !vs.isEmpty := by
  cases ds with
  | nil => cases h; rfl
  | cons d ds => obtain ⟨v, r, rfl, _⟩ := h; rfl
theorem DPk.isE {K F ad L} {ds : List (Key × D)} {vs : List (Key × V)} (h : DPk K F ad L ds vs) : (!ds.isEmpty) = !vs.isEmpty := by
  cases ds with
  | nil => cases h; rfl
  | cons d ds => obtain ⟨k, d⟩ := d; obtain ⟨v, r, rfl, _⟩ := h; rfl
theorem truM_at {X : Cx} {F ad S H} {d : D} {v : V} {b : Bool} {S' : Store} (rs : RS X.K F ad S H) (dp : DP X.K F ad S.length d v) (h : truM d S = .ok b S') : S' = S ∧ TruV X.K v H b := by
  cases d with
  | non => cases h; cases dp; exact ⟨rfl, rfl⟩
  | bl c => cases h; cases dp; exact ⟨rfl, rfl⟩
  | int i => cases h; cases dp; exact ⟨rfl, rfl⟩
  | str x =>
    cases dp
    simp only [truM] at h
    split at h
    · rename_i c; cases h; exact ⟨rfl, c, rfl⟩
    · cases h
  | lst ds =>
    cases h
    obtain ⟨a, xs, rfl, h1, h2⟩ := dp
    exact ⟨rfl, .inl ⟨xs, SqL.of (rs.sub _ _ h1), h2.isE⟩⟩
  | tup ds =>
    cases h
    obtain ⟨a, xs, rfl, h1, h2⟩ := dp
    exact ⟨rfl, .inr (.inl ⟨xs, (sqC_mono (fun a o e => rs.sub a o e) h1).sq, h2.isE⟩)⟩
  | utp ds =>
    cases h
    obtain ⟨a, xs, rfl, h1, h2⟩ := dp
    exact ⟨rfl, .inr (.inl ⟨xs, sqT_mono (fun a o e => rs.sub a o e) h1, h2.isE⟩)⟩
  | obj n =>
    obtain ⟨hn, rfl⟩ := dp
    simp only [truM] at h
    split at h
    · rename_i ds q
      cases h
      obtain ⟨h1, o, h2, vs, h3, h4⟩ := rs.liv n _ q
      subst h3
      exact ⟨rfl, .inl ⟨vs, SqL.of h2, h4.isE⟩⟩
    · rename_i kvs q
      cases h
      obtain ⟨h1, o, h2, vs, h3, h4⟩ := rs.liv n _ q
      subst h3
      exact ⟨rfl, .inr (.inr ⟨vs, h2, h4.isE⟩)⟩
    · cases h
  | scr ns => cases h
  | err a dd ns ds => cases h
theorem truM_ex {d : D} {x : Ex} {S S' : Store} (h : truM d S = .ex x S') : False := by
  cases d <;> simp [truM] at h
  · split at h <;> cases h
  · split at h <;> cases h
def tru (f : Env → M D) : Env → M Bool := fun env => bd (f env) truM
def orW (f g : Env → M D) : Env → M D := fun env => bd (f env) fun d => bd (truM d) fun c => if c = true then pur d else g env
def andW (f g : Env → M D) : Env → M D := fun env => bd (f env) fun d => bd (truM d) fun c => if c = true then g env else pur d
section
variable {X : Cx} {W : WX} {a b e : Expr} {f g : Env → M D} {pos : Pos}
theorem ft_tru (h : FE X W e f) (he : ∀ whole, isTrue e X.env whole = (do let v ← whole; standAt e.pos; holding [v] (truthy v)) := by intro _; rfl) : FT X W e (tru f) := by
  refine ⟨PT.weak (pt_truth h.run he) fun σ H Q ⟨F, ad, env, S, re, rs, h⟩ => ?_⟩
  refine ⟨F, ad, env, S, re, rs, Fin.seq re h fun F1 ad1 S1 d v H1 n1 re1 rs1 dp1 h1 => ?_⟩
  cases q : truM d S1 with
  | no => rw [q] at h1; exact h1.elim
  | ex _ _ => exact (truM_ex q).elim
  | ok c S2 =>
    rw [q] at h1
    obtain ⟨rfl, t⟩ := truM_at rs1 dp1 q
    exact ⟨c, t, Fin.pure (X := X) (RR := fun _ _ _ b c => b = c) rs1 h1 rfl⟩
theorem fe_orW {rest : List Expr} (ha : FE X W a f) (hb : FE X W (.BoolOp .Or (b :: rest) pos) g) : FE X W (.BoolOp .Or (a :: b :: rest) pos) (orW f g) := by
  refine ⟨PE.weak (pe_orT ha.run hb.run) fun σ H Q ⟨F, ad, env, S, re, rs, h⟩ => ?_⟩
  refine ⟨F, ad, env, S, re, rs, Fin.seq re h fun F1 ad1 S1 d v H1 n1 re1 rs1 dp1 h1 => ?_⟩
  obtain ⟨c, S2, q, h1⟩ := Fin.look h1 fun _ _ => truM_ex
  obtain ⟨rfl, t⟩ := truM_at rs1 dp1 q
  refine ⟨c, t, ?_⟩
  cases c with
  | true => exact iteT (Fin.pure rs1 h1 dp1)
  | false => exact iteF ⟨F1, ad1, env, S2, re1, rs1, h1⟩
end
/-- {} -/
theorem fe_dict0 {X : Cx} {W : WX} {pos : Pos} : FE X W (.Dict [] [] pos) (fun _ => mkO (.dct [])) :=
  ⟨PE.weak pe_dnewK fun σ H Q ⟨F, ad, env, S, re, rs, h⟩ => fin_mkO (od := .dct []) rs ⟨[], rfl, rfl⟩ h⟩
theorem sL5 : 5 ≤ sizeLine := by decide
theorem shp5 : ∀ a b c d e : Bool, SeqAt.shaped (.list [.bool a, .bool b, .bool c, .bool d, .bool e]) = true := by decide
/-! ### constants of the module: tuples, dicts with text keys -/
/-- the name x holds a tuple (or another plain value) of the module -/
structure CAt (K : PySem.W.Frag) (mg : Str → Option Value) (x : Str) (d : D) : Prop where
  ex : ∃ u v, mg x = some u ∧ RelV v u ∧ ∀ F ad L, DP K F ad L d v
structure WDct (w : World) (K : PySem.W.Frag) (mg : Str → Option Value) (x : Str) (tab : List (Str × D)) : Prop where
  ex : ∃ p es n, mg x = some (.ref p) ∧ KDict K w p es n ∧ ∀ z : Str, (∃ d u v, tab.lookup z = some d ∧ PySem.W.nsIn K p z = some (some u) ∧ RelV v u ∧ ∀ F ad L, DP K F ad L d v) ∨ (tab.lookup z = none ∧ PySem.W.nsIn K p z = some none)
theorem fe_cst {X : Cx} {W : WX} {x : Str} {d : D} {pos : Pos} (hg : Gl X x) (h : CAt X.K X.mg x d) (hdb : (x == ("__debug__" : Str)) = false := by decide) : FE X W (.Name x pos) (fun _ => pur d) := by
  obtain ⟨u, v, h1, h2, h3⟩ := h.ex
  exact fe_glob hg h1 h2 h3 hdb
def wget (tab : List (Str × D)) (f : Env → M D) : Env → M D := fun env => bd (f env) fun y => match y with
  | .str z => pur ((tab.lookup z).getD .non)
  | _ => mno
section
variable {X : Cx} {W : WX} {b : Expr} {f : Env → M D} {x : Str} {p0 apos cpos : Pos} {tab : List (Str × D)}
theorem pe_wget {p : Addr} {es : Array DictEntry} {n : Nat} {ty : TE} (D : KDict X.K X.w p es n) (hg : Gl X x) (hm : X.mg x = some (.ref p)) (he : PE X b ty) (m : M1 X (.Name x p0) "get" apos b cpos) (hdb : (x == ("__debug__" : Str)) = false := by decide) :
    PE X (.Call (.Attribute (.Name x p0) "get" apos) [b] [] cpos) (fun σ H Q => ty σ H fun y H2 => ∃ z r v, y = .str z ∧ PySem.W.nsIn X.K p z = some r ∧ RelV v (r.getD .none) ∧ Q v H2) := by
  refine ⟨fun pins s σ H Q I h => ?_⟩
  have ho : PE X (.Name x p0) (tC (.ref p)) := pe_glob hg hm rfl hdb
  refine wpAny_Call_method m.base m.few m.line PySem.F.plainAttrs_dict PySem.F.slot_dict_get PySem.F.type_dict_get (thn (ho.run pins s σ H (fun y H1 => y = .ref p ∧ ty σ H1 fun y H2 => ∃ z r v, y = .str z ∧ PySem.W.nsIn X.K p z = some r ∧ RelV v (r.getD .none) ∧ Q v H2) I ⟨rfl, h⟩) fun u s1 ⟨y, H1, I1, rx, ey, q1⟩ => ?_)
  subst ey
  obtain rfl : u = Value.ref p := rx
  refine ⟨kd_type D I1, fun c q => ?_, ?_⟩
  · cases q
    exact ⟨_, I1.kIn _ _ D.at_, rfl⟩
  rw [m.trees]
  refine Calls.callWith_builtin rfl (Calls.evalArgs_plain (Calls.spliced_cons (thn (he.run pins s1 σ H1 _ I1 q1) fun iv s2 ⟨y, H2, I2, ry, z, r, v, ez, e, rv, q2⟩ => Calls.spliced_nil ?_)))
  subst ez
  obtain ⟨t, rfl⟩ := ry
  refine call_meetsIn PySem.F.slot_dict_get (kd_type D I2) PySem.F.entry_dict_get (PySem.F.args_dict_get_2 _ _) (meets_dict_get (strKind X.prog X.w) p (PySem.strKind_is X.prog X.w z t) D.low) ⟨_, PySem.W.mapOf_K (prog := X.prog) I2.kIn D.at_ D.lit, ?_⟩
  rw [PySem.W.find_K D.at_ e]
  exact ⟨v, H2, I2.tok _, rv, q2⟩
theorem fe_wget (h : WDct X.w X.K X.mg x tab) (hg : Gl X x) (hi : FE X W b f) (m : M1 X (.Name x p0) "get" apos b cpos) (hdb : (x == ("__debug__" : Str)) = false := by decide) : FE X W (.Call (.Attribute (.Name x p0) "get" apos) [b] [] cpos) (wget tab f) := by
  obtain ⟨p, es, n, h1, h2, h3⟩ := h.ex
  refine ⟨PE.weak (pe_wget h2 hg h1 hi.run m hdb) fun σ H Q ⟨F, ad, env, S, re, rs, h⟩ => ⟨F, ad, env, S, re, rs, Fin.seq re h fun F1 ad1 S1 y v H1 n1 re1 rs1 dp1 h' => ?_⟩⟩
  cases y <;> first
    | exact h'.elim
    | skip
  rename_i z
  cases dp1
  rcases h3 z with ⟨d, u, v, e1, e2, e3, e4⟩ | ⟨e1, e2⟩
  · refine ⟨z, some u, v, rfl, e2, e3, ?_⟩
    simp only [e1, Option.getD_some] at h'
    exact Fin.pure rs1 h' (e4 _ _ _)
  · refine ⟨z, none, .non, rfl, e2, rfl, ?_⟩
    simp only [e1, Option.getD_none] at h'
    exact Fin.pure rs1 h' rfl
end
/-! ### how the constants are shown from the written part -/
theorem dp_tup {K : PySem.W.Frag} {a : Addr} {its : Array Value} {n : Nat} {sl : Array (Option Value)} {us : List Value} {xs : List V} {ds : List D} (lk : K.lookup a = some ⟨.type "tuple", none, .seq its n, sl⟩) (eq : its.toList = us) (hs : us.length ≤ sizeLine) (hv : Vals xs us)
    (hd : ∀ F ad L, DPs K F ad L ds xs) : ∀ F ad L, DP K F ad L (.tup ds) (.ref a) := fun F ad L =>
  ⟨a, xs, rfl, .inr ⟨_, its, n, lk, rfl, rfl, rfl, by rw [← Array.length_toList, eq]; exact hs, by rw [eq]; exact hv⟩, hd F ad L⟩
theorem dps_nil {K : PySem.W.Frag} : ∀ F ad L, DPs K F ad L [] [] := fun _ _ _ => rfl
theorem dps_cons {K : PySem.W.Frag} {d : D} {ds : List D} {v : V} {vs : List V} (h1 : ∀ F ad L, DP K F ad L d v) (h2 : ∀ F ad L, DPs K F ad L ds vs) : ∀ F ad L, DPs K F ad L (d :: ds) (v :: vs) := fun F ad L => ⟨v, vs, rfl, h1 F ad L, h2 F ad L⟩
def EntsOk (w : World) (K : PySem.W.Frag) : List (Str × D) → List DictEntry → Prop
  | [], [] => True
  | (k, d) :: tab, e :: es => (∃ t, e.key = .str k t ∧ e.hash = PyData.keyHash w.params k) ∧ (∃ v, RelV v e.val ∧ ∀ F ad L, DP K F ad L d v) ∧ EntsOk w K tab es
  | _, _ => False
theorem EntsOk.lit {w : World} {K : PySem.W.Frag} : ∀ {tab : List (Str × D)} {es : List DictEntry}, EntsOk w K tab es → PySem.W.KeysLit w.params es
  | [], [], _ => trivial
  | (k, d) :: tab, e :: es, ⟨⟨t, h1, h2⟩, _, h3⟩ => ⟨⟨k, t, h1, h2⟩, h3.lit⟩
theorem EntsOk.key {w : World} {K : PySem.W.Frag} : ∀ {tab : List (Str × D)} {es : List DictEntry}, EntsOk w K tab es → ∀ z : Str, es.any (·.refKey) = false ∧ ((∃ d e v, tab.lookup z = some d ∧ es.find? (·.key.isStr z) = some e ∧ RelV v e.val ∧ ∀ F ad L, DP K F ad L d v) ∨ (tab.lookup z = none ∧ es.find? (·.key.isStr z) = none))
  | [], [], _, z => ⟨rfl, .inr ⟨rfl, rfl⟩⟩
  | (k, d) :: tab, e :: es, ⟨⟨t, h1, h2⟩, ⟨v, h4, h5⟩, h3⟩, z => by
    obtain ⟨i1, i2⟩ := h3.key z
    have hr : e.refKey = false := by unfold DictEntry.refKey; rw [h1]
    have hi : e.key.isStr z = (k == z) := by rw [h1]; rfl
    refine ⟨by rw [List.any_cons, hr, i1]; rfl, ?_⟩
    rw [List.lookup_cons, List.find?_cons, hi]
    cases c : (k == z) with
    | true =>
      have c2 : (z == k) = true := by rw [beq_iff_eq] at c ⊢; exact c.symm
      rw [c2]
      exact .inl ⟨d, e, v, rfl, rfl, h4, h5⟩
    | false =>
      have c2 : (z == k) = false := by rw [beq_eq_false_iff_ne] at c ⊢; exact fun q => c q.symm
      rw [c2]
      exact i2
theorem wdct_of {w : World} {K : PySem.W.Frag} {mg : Str → Option Value} {x : Str} {tab : List (Str × D)} {p : Addr} {es : Array DictEntry} {n : Nat} {ents : List DictEntry} (hm : mg x = some (.ref p)) (hl : K.lookup p = some ⟨.type "dict", none, .dict es n, #[]⟩) (low : (p == sysModules) = false) (he : es.toList = ents)
    (h : EntsOk w K tab ents) : WDct w K mg x tab := by
  subst he
  refine ⟨⟨p, es, n, hm, ⟨hl, h.lit, low⟩, fun z => ?_⟩⟩
  obtain ⟨i1, i2⟩ := h.key z
  unfold PySem.W.nsIn
  rw [hl]
  rcases i2 with ⟨d, e, v, e1, e2, e3, e4⟩ | ⟨e1, e2⟩
  · exact .inl ⟨d, e.val, v, e1, by simp only [e2], e3, e4⟩
  · refine .inr ⟨e1, ?_⟩
    simp only [e2, i1]
    rfl
end Fx

end
/-! ## Fx22 -/
section
namespace Fx
open PySem
open L2 (atI ixN Key)
variable [tb : Tabl]
/-! ### what only adds to the store -/
def Add (S T : Store) : Prop := ∃ l, T = S ++ l
theorem Add.refl (S : Store) : Add S S := ⟨[], by simp⟩
theorem Add.trans {S T U : Store} (h : Add S T) (g : Add T U) : Add S U := by
  obtain ⟨k, rfl⟩ := h
  obtain ⟨l, rfl⟩ := g
  exact ⟨k ++ l, by rw [List.append_assoc]⟩
class Gw {α : Type} (m : M α) : Prop where
  a : ∀ S, match m S with | .ok _ T => Add S T | .ex _ T => Add S T | .no => True
class GE {α : Type} (f : Env → M α) : Prop where
  a : ∀ env, Gw (f env)
class G1 {α : Type} (g : List D → M α) : Prop where
  a : ∀ ds, Gw (g ds)
class G2 (g : D → D → M D) : Prop where
  a : ∀ x y, Gw (g x y)
class GS (b : Env → MS) : Prop where
  a : ∀ env S, match b env S with | .ok _ T => Add S T | .ex _ _ T => Add S T | .no => True
theorem Gw.ok {α : Type} {m : M α} (h : Gw m) {S T : Store} {x : α} (e : m S = .ok x T) : Add S T := by
  have := h.a S
  rw [e] at this; exact this
theorem Gw.ex {α : Type} {m : M α} (h : Gw m) {S T : Store} {x : Ex} (e : m S = .ex x T) : Add S T := by
  have := h.a S
  rw [e] at this; exact this
theorem GS.ok {b : Env → MS} (h : GS b) {env : Env} {S T : Store} {x : Fl} (e : b env S = .ok x T) : Add S T := by
  have := h.a env S
  rw [e] at this; exact this
theorem GS.ex {b : Env → MS} (h : GS b) {env env' : Env} {S T : Store} {x : Ex} (e : b env S = .ex x env' T) : Add S T := by
  have := h.a env S
  rw [e] at this; exact this
theorem gw_of {α : Type} {m : M α} (h1 : ∀ S x T, m S = .ok x T → Add S T) (h2 : ∀ S x T, m S = .ex x T → Add S T) : Gw m := ⟨fun S => by
  cases e : m S with
  | ok x T => exact h1 S x T e
  | ex x T => exact h2 S x T e
  | no => trivial⟩
theorem gs_of {b : Env → MS} (h1 : ∀ env S x T, b env S = .ok x T → Add S T) (h2 : ∀ env S x env' T, b env S = .ex x env' T → Add S T) : GS b := ⟨fun env S => by
  cases e : b env S with
  | ok x T => exact h1 env S x T e
  | ex x env' T => exact h2 env S x env' T e
  | no => trivial⟩
theorem gw_pur {α : Type} (x : α) : Gw (pur x : M α) := ⟨fun S => Add.refl S⟩
theorem gw_mno {α : Type} : Gw (mno : M α) := ⟨fun _ => trivial⟩
theorem gw_opt {α : Type} (o : Option α) : Gw (opt o : M α) := by cases o <;> first | exact gw_mno | exact gw_pur _
theorem gw_bd {α β : Type} {m : M α} {k : α → M β} (h : Gw m) (hk : ∀ x, Gw (k x)) : Gw (bd m k) := ⟨fun S => by
  unfold bd
  cases e : m S with
  | ok x T =>
    have h1 := h.ok e
    have h2 := (hk x).a T
    show match k x T with | .ok _ T => Add S T | .ex _ T => Add S T | .no => True
    cases e2 : k x T with
    | ok y U => rw [e2] at h2; exact h1.trans h2
    | ex y U => rw [e2] at h2; exact h1.trans h2
    | no => trivial
  | ex x T => exact h.ex e
  | no => trivial⟩
theorem gw_bdN {α β : Type} {m : M α} {k : α → M β} (h : Gw m) (hk : ∀ x, Gw (k x)) : Gw (bdN m k) := ⟨fun S => by
  unfold bdN
  cases e : m S with
  | ok x T =>
    have h1 := h.ok e
    have h2 := (hk x).a T
    show match k x T with | .ok _ T => Add S T | .ex _ T => Add S T | .no => True
    cases e2 : k x T with
    | ok y U => rw [e2] at h2; exact h1.trans h2
    | ex y U => rw [e2] at h2; exact h1.trans h2
    | no => trivial
  | ex x T => trivial
  | no => trivial⟩
theorem gw_ite {α : Type} {c : Prop} [Decidable c] {m n : M α} (h : Gw m) (g : Gw n) : Gw (if c then m else n) := by split <;> assumption
theorem gw_look {α : Type} {m : M α} (h1 : ∀ S x T, m S = .ok x T → T = S) (h2 : ∀ S x T, m S = .ex x T → False) : Gw m :=
  gw_of (fun S x T e => h1 S x T e ▸ Add.refl S) fun S x T e => (h2 S x T e).elim
/-! ### what looks -/
theorem gw_seqM (d : D) : Gw (seqM d) := by
  cases d <;> first
    | exact gw_pur _
    | exact gw_mno
    | skip
  refine ⟨fun S => ?_⟩
  simp only [seqM]
  split <;> rename_i e
  · split at e <;> cases e <;> exact Add.refl _
  · split at e <;> cases e
  · trivial
theorem gw_seqL (d : D) : Gw (seqL d) := by
  unfold seqL
  split
  · exact gw_pur _
  · exact gw_seqM _
theorem gw_seqLT (d : D) : Gw (seqLT d) := by
  unfold seqLT
  split
  · exact gw_pur _
  · exact gw_seqL _
theorem gw_pyM (d : D) : Gw (pyM d) := by
  unfold pyM
  split
  · refine ⟨fun S => ?_⟩
    split <;> rename_i e
    · split at e
      · split at e <;> cases e <;> exact Add.refl _
      · cases e
    · split at e
      · split at e <;> cases e
      · cases e
    · trivial
  · exact ⟨fun S => Add.refl S⟩
  · exact gw_opt _
theorem gw_objL (d : D) : Gw (objL d) := by
  cases d <;> first
    | exact gw_mno
    | skip
  refine ⟨fun S => ?_⟩
  simp only [objL]
  split <;> rename_i e
  · split at e <;> cases e <;> exact Add.refl _
  · split at e <;> cases e
  · trivial
theorem gw_objK (d : D) : Gw (objK d) := by
  cases d <;> first
    | exact gw_mno
    | skip
  refine ⟨fun S => ?_⟩
  simp only [objK]
  split <;> rename_i e
  · split at e <;> cases e <;> exact Add.refl _
  · split at e <;> cases e
  · trivial
theorem gw_asB (d : D) : Gw (asB d) := by cases d <;> first | exact gw_pur _ | exact gw_mno
theorem gw_tyM (d : D) : Gw (tyM d) := by
  cases d <;> first
    | exact gw_pur _
    | exact gw_mno
    | skip
  refine ⟨fun S => ?_⟩
  simp only [tyM]
  split <;> rename_i e
  · split at e <;> cases e <;> exact Add.refl _
  · split at e <;> cases e
  · trivial
theorem gw_mkO (od : OD) : Gw (mkO od) := ⟨fun S => ⟨[some od], rfl⟩⟩
theorem gw_itm (d : D) : Gw (itm d) := by cases d <;> first | exact gw_pur _ | exact gw_mno
theorem gw_intOf (d : D) : Gw (intOf d) := by cases d <;> first | exact gw_pur _ | exact gw_mno
instance : G1 mkL := ⟨fun ds => gw_ite (gw_pur _) gw_mno⟩
instance : G1 mkT := ⟨fun ds => gw_ite (gw_pur _) gw_mno⟩
instance : G1 mkN := ⟨fun ds => gw_ite (gw_mkO _) gw_mno⟩
/-! ### operators -/
theorem gw_catL {mk : List D → M D} [h : G1 mk] (x y : D) : Gw (catL mk x y) := gw_bd (gw_seqM x) fun _ => gw_bd (gw_seqM y) fun _ => h.a _
instance {mk : List D → M D} [h : G1 mk] : G2 (addD mk) := ⟨fun x y => by unfold addD; (repeat' (first | exact gw_pur _ | exact gw_mno | exact gw_opt _ | exact gw_catL _ _ | exact gw_seqLT _ | exact gw_seqL _ | exact gw_seqM _ | exact gw_objK _ | exact gw_pyM _ | apply gw_bd | intro _ | split))⟩
instance : G2 subD := ⟨fun x y => by unfold subD; (repeat' (first | exact gw_pur _ | exact gw_mno | exact gw_opt _ | exact gw_catL _ _ | exact gw_seqLT _ | exact gw_seqL _ | exact gw_seqM _ | exact gw_objK _ | exact gw_pyM _ | apply gw_bd | intro _ | split))⟩
instance : G2 modD := ⟨fun x y => by unfold modD; (repeat' (first | exact gw_pur _ | exact gw_mno | exact gw_opt _ | exact gw_catL _ _ | exact gw_seqLT _ | exact gw_seqL _ | exact gw_seqM _ | exact gw_objK _ | exact gw_pyM _ | apply gw_bd | intro _ | split))⟩
instance : G2 fdivD := ⟨fun x y => by unfold fdivD; (repeat' (first | exact gw_pur _ | exact gw_mno | exact gw_opt _ | exact gw_catL _ _ | exact gw_seqLT _ | exact gw_seqL _ | exact gw_seqM _ | exact gw_objK _ | exact gw_pyM _ | apply gw_bd | intro _ | split))⟩
instance : G2 powD := ⟨fun x y => by unfold powD; (repeat' (first | exact gw_pur _ | exact gw_mno | exact gw_opt _ | exact gw_catL _ _ | exact gw_seqLT _ | exact gw_seqL _ | exact gw_seqM _ | exact gw_objK _ | exact gw_pyM _ | apply gw_bd | intro _ | split))⟩
instance : G2 mulD := ⟨fun x y => by unfold mulD repL; (repeat' (first | exact gw_pur _ | exact gw_mno | exact gw_opt _ | exact gw_catL _ _ | exact gw_seqLT _ | exact gw_seqL _ | exact gw_seqM _ | exact gw_objK _ | exact gw_pyM _ | apply gw_bd | intro _ | split))⟩
instance : G2 ltD := ⟨fun x y => by unfold ltD; (repeat' (first | exact gw_pur _ | exact gw_mno | exact gw_opt _ | exact gw_catL _ _ | exact gw_seqLT _ | exact gw_seqL _ | exact gw_seqM _ | exact gw_objK _ | exact gw_pyM _ | apply gw_bd | intro _ | split))⟩
instance : G2 leD := ⟨fun x y => by unfold leD; (repeat' (first | exact gw_pur _ | exact gw_mno | exact gw_opt _ | exact gw_catL _ _ | exact gw_seqLT _ | exact gw_seqL _ | exact gw_seqM _ | exact gw_objK _ | exact gw_pyM _ | apply gw_bd | intro _ | split))⟩
instance : G2 gtD := ⟨fun x y => by unfold gtD; (repeat' (first | exact gw_pur _ | exact gw_mno | exact gw_opt _ | exact gw_catL _ _ | exact gw_seqLT _ | exact gw_seqL _ | exact gw_seqM _ | exact gw_objK _ | exact gw_pyM _ | apply gw_bd | intro _ | split))⟩
instance : G2 geD := ⟨fun x y => by unfold geD; (repeat' (first | exact gw_pur _ | exact gw_mno | exact gw_opt _ | exact gw_catL _ _ | exact gw_seqLT _ | exact gw_seqL _ | exact gw_seqM _ | exact gw_objK _ | exact gw_pyM _ | apply gw_bd | intro _ | split))⟩
instance : G2 eqD := ⟨fun x y => by unfold eqD; (repeat' (first | exact gw_pur _ | exact gw_mno | exact gw_opt _ | exact gw_catL _ _ | exact gw_seqLT _ | exact gw_seqL _ | exact gw_seqM _ | exact gw_objK _ | exact gw_pyM _ | apply gw_bd | intro _ | split))⟩
instance : G2 neD := ⟨fun x y => by unfold neD; (repeat' (first | exact gw_pur _ | exact gw_mno | exact gw_opt _ | exact gw_catL _ _ | exact gw_seqLT _ | exact gw_seqL _ | exact gw_seqM _ | exact gw_objK _ | exact gw_pyM _ | apply gw_bd | intro _ | split))⟩
instance : G2 isD := ⟨fun x y => by unfold isD; (repeat' (first | exact gw_pur _ | exact gw_mno | exact gw_opt _ | exact gw_catL _ _ | exact gw_seqLT _ | exact gw_seqL _ | exact gw_seqM _ | exact gw_objK _ | exact gw_pyM _ | apply gw_bd | intro _ | split))⟩
instance : G2 isntD := ⟨fun x y => by unfold isntD; (repeat' (first | exact gw_pur _ | exact gw_mno | exact gw_opt _ | exact gw_catL _ _ | exact gw_seqLT _ | exact gw_seqL _ | exact gw_seqM _ | exact gw_objK _ | exact gw_pyM _ | apply gw_bd | intro _ | split))⟩
instance {b : Bool} : G2 (inD b) := ⟨fun x y => by unfold inD; (repeat' (first | exact gw_pur _ | exact gw_mno | exact gw_opt _ | exact gw_catL _ _ | exact gw_seqLT _ | exact gw_seqL _ | exact gw_seqM _ | exact gw_objK _ | exact gw_pyM _ | apply gw_bd | intro _ | split))⟩
instance {b : Bool} : G2 (dinD b) := ⟨fun x y => by unfold dinD; (repeat' (first | exact gw_pur _ | exact gw_mno | exact gw_opt _ | exact gw_catL _ _ | exact gw_seqLT _ | exact gw_seqL _ | exact gw_seqM _ | exact gw_objK _ | exact gw_pyM _ | apply gw_bd | intro _ | split))⟩
instance : G2 ixD := ⟨fun x y => by unfold ixD; (repeat' (first | exact gw_pur _ | exact gw_mno | exact gw_opt _ | exact gw_catL _ _ | exact gw_seqLT _ | exact gw_seqL _ | exact gw_seqM _ | exact gw_objK _ | exact gw_pyM _ | apply gw_bd | intro _ | split))⟩
instance : G2 dgetD := ⟨fun x y => by unfold dgetD; (repeat' (first | exact gw_pur _ | exact gw_mno | exact gw_opt _ | exact gw_catL _ _ | exact gw_seqLT _ | exact gw_seqL _ | exact gw_seqM _ | exact gw_objK _ | exact gw_pyM _ | apply gw_bd | intro _ | split))⟩
/-! ### built-ins -/
instance : G1 lenD := ⟨fun ds => by
  unfold lenD
  split <;> first
    | exact gw_pur _
    | exact gw_mno
    | skip
  · split <;> first | exact gw_pur _ | exact gw_mno
  · refine ⟨fun S => ?_⟩
    split <;> rename_i e
    · split at e <;> cases e <;> exact Add.refl _
    · split at e <;> cases e
    · trivial⟩
instance : G1 allD := ⟨fun ds => by unfold allD; (repeat' (first | exact gw_pur _ | exact gw_mno | exact gw_opt _ | exact gw_catL _ _ | exact gw_seqLT _ | exact gw_seqL _ | exact gw_seqM _ | exact gw_objK _ | exact gw_pyM _ | apply gw_bd | intro _ | split))⟩
instance : G1 anyD := ⟨fun ds => by unfold anyD; (repeat' (first | exact gw_pur _ | exact gw_mno | exact gw_opt _ | exact gw_catL _ _ | exact gw_seqLT _ | exact gw_seqL _ | exact gw_seqM _ | exact gw_objK _ | exact gw_pyM _ | apply gw_bd | intro _ | split))⟩
instance : G1 intD := ⟨fun ds => by unfold intD; (repeat' (first | exact gw_pur _ | exact gw_mno | exact gw_opt _ | exact gw_catL _ _ | exact gw_seqLT _ | exact gw_seqL _ | exact gw_seqM _ | exact gw_objK _ | exact gw_pyM _ | apply gw_bd | intro _ | split))⟩
instance : G1 strD := ⟨fun ds => by unfold strD; (repeat' (first | exact gw_pur _ | exact gw_mno | exact gw_opt _ | exact gw_catL _ _ | exact gw_seqLT _ | exact gw_seqL _ | exact gw_seqM _ | exact gw_objK _ | exact gw_pyM _ | apply gw_bd | intro _ | split))⟩
instance : G1 reprD := ⟨fun ds => by unfold reprD; (repeat' (first | exact gw_pur _ | exact gw_mno | exact gw_opt _ | exact gw_catL _ _ | exact gw_seqLT _ | exact gw_seqL _ | exact gw_seqM _ | exact gw_objK _ | exact gw_pyM _ | apply gw_bd | intro _ | split))⟩
instance {mk : List D → M D} [h : G1 mk] : G1 (listD mk) := ⟨fun ds => by
  unfold listD
  split
  · exact gw_bd (gw_seqLT _) fun _ => h.a _
  · exact gw_mno⟩
instance : G1 dictD := ⟨fun ds => by
  unfold dictD
  split
  · exact gw_bd (gw_opt _) fun _ => gw_mkO _
  · exact gw_bd (gw_seqL _) fun _ => gw_bd (gw_opt _) fun _ => gw_mkO _
  · exact gw_mno⟩
/-! ### expressions -/
section
variable {α β : Type}
instance {x : α} : GE (fun _ : Env => (pur x : M α)) := ⟨fun _ => gw_pur _⟩
instance {i : Nat} : GE (getv i) := ⟨fun env => by unfold getv; split <;> first | exact gw_pur _ | exact gw_mno⟩
instance {g : D → D → M D} {f1 f2 : Env → M D} [h : G2 g] [h1 : GE f1] [h2 : GE f2] : GE (bin g f1 f2) := ⟨fun env => gw_bd (h1.a env) fun _ => gw_bd (h2.a env) fun _ => h.a _ _⟩
instance {f : Env → M D} [h : GE f] : GE (tst f) := ⟨fun env => gw_bd (h.a env) gw_asB⟩
instance {f g : Env → M Bool} [h1 : GE f] [h2 : GE g] : GE (andB f g) := ⟨fun env => gw_bd (h1.a env) fun _ => gw_ite (h2.a env) (gw_pur _)⟩
instance {f g : Env → M Bool} [h1 : GE f] [h2 : GE g] : GE (orB f g) := ⟨fun env => gw_bd (h1.a env) fun _ => gw_ite (gw_pur _) (h2.a env)⟩
instance {f : Env → M Bool} [h1 : GE f] : GE (notB f) := ⟨fun env => gw_bd (h1.a env) fun _ => gw_pur _⟩
instance {f g : Env → M D} [h1 : GE f] [h2 : GE g] : GE (andV f g) := ⟨fun env => gw_bd (h1.a env) fun _ => gw_bd (gw_asB _) fun _ => gw_ite (h2.a env) (gw_pur _)⟩
instance {f g : Env → M D} [h1 : GE f] [h2 : GE g] : GE (orV f g) := ⟨fun env => gw_bd (h1.a env) fun _ => gw_bd (gw_asB _) fun _ => gw_ite (gw_pur _) (h2.a env)⟩
instance {f : Env → M D} [h1 : GE f] : GE (notV f) := ⟨fun env => gw_bd (h1.a env) fun _ => gw_bd (gw_asB _) fun _ => gw_pur _⟩
instance {p : Env → M Bool} {f g : Env → M D} [h : GE p] [h1 : GE f] [h2 : GE g] : GE (iteV p f g) := ⟨fun env => gw_bd (h.a env) fun _ => gw_ite (h1.a env) (h2.a env)⟩
instance {g g' : D → D → M D} {f1 f2 f3 : Env → M D} [h : G2 g] [h' : G2 g'] [h1 : GE f1] [h2 : GE f2] [h3 : GE f3] : GE (chn g g' f1 f2 f3) := ⟨fun env => gw_bd (h1.a env) fun _ => gw_bd (h2.a env) fun _ => gw_bd (h.a _ _) fun _ => gw_bd (gw_asB _) fun _ => gw_ite (gw_bd (h3.a env) fun _ => h'.a _ _) (gw_pur _)⟩
instance {f : Env → M D} {t : Env → M (List D)} [h1 : GE f] [h2 : GE t] : GE (cns f t) := ⟨fun env => gw_bd (h1.a env) fun _ => gw_bd (h2.a env) fun _ => gw_pur _⟩
instance {mk : List D → M D} {t : Env → M (List D)} [h : G1 mk] [h1 : GE t] : GE (dsp mk t) := ⟨fun env => gw_bd (h1.a env) h.a⟩
instance {ks : List Key} {t : Env → M (List D)} [h1 : GE t] : GE (dspD ks t) := ⟨fun env => gw_bd (h1.a env) fun _ => gw_mkO _⟩
instance {t : Env → M (List D)} {g : List D → M D} [h1 : GE t] [h : G1 g] : GE (cal t g) := ⟨fun env => gw_bd (h1.a env) h.a⟩
instance {n : Nat} {ix : List Nat} {t : Env → M (List D)} {g : List D → M D} [h1 : GE t] [h : G1 g] : GE (calK n ix t g) := ⟨fun env => gw_bd (h1.a env) fun _ => gw_ite (h.a _) gw_mno⟩
instance {T : String} {f : Env → M D} [h : GE f] : GE (isi T f) := ⟨fun env => gw_bd (h.a env) fun _ => gw_bd (gw_tyM _) fun _ => gw_pur _⟩
instance {f1 f2 : Env → M D} [h1 : GE f1] [h2 : GE f2] : GE (get1 f1 f2) := ⟨fun env => gw_bd (h1.a env) fun _ => gw_bd (gw_objK _) fun _ => gw_bd (h2.a env) fun _ => gw_bd (gw_objK _) fun _ => gw_bd (gw_opt _) fun _ => gw_pur _⟩
instance {f1 f2 f3 : Env → M D} [h1 : GE f1] [h2 : GE f2] [h3 : GE f3] : GE (get2 f1 f2 f3) := ⟨fun env => gw_bd (h1.a env) fun _ => gw_bd (gw_objK _) fun _ => gw_bd (h2.a env) fun _ => gw_bd (h3.a env) fun _ => gw_bd (gw_objK _) fun _ => gw_bd (gw_opt _) fun _ => gw_pur _⟩
instance {f : Env → M D} [h : GE f] : GE (fun env => bd (f env) intOf) := ⟨fun env => gw_bd (h.a env) gw_intOf⟩
theorem gw_slD (x : D) (lo hi : Option Int) : Gw (slD x lo hi) := by unfold slD; (repeat' (first | exact gw_pur _ | exact gw_mno | exact gw_opt _ | exact gw_catL _ _ | exact gw_seqLT _ | exact gw_seqL _ | exact gw_seqM _ | exact gw_objK _ | exact gw_pyM _ | apply gw_bd | intro _ | split))
theorem gw_stpD (x : D) (lo hi st : Option Int) : Gw (stpD x lo hi st) := by unfold stpD; (repeat' (first | exact gw_pur _ | exact gw_mno | exact gw_opt _ | exact gw_catL _ _ | exact gw_seqLT _ | exact gw_seqL _ | exact gw_seqM _ | exact gw_objK _ | exact gw_pyM _ | apply gw_bd | intro _ | split))
instance {f : Env → M D} {l k : Env → M (Option Int)} [h : GE f] [h1 : GE l] [h2 : GE k] : GE (slc f l k) := ⟨fun env => gw_bd (h.a env) fun _ => gw_bd (h1.a env) fun _ => gw_bd (h2.a env) fun _ => gw_slD _ _ _⟩
instance {f : Env → M D} {l k s : Env → M (Option Int)} [h : GE f] [h1 : GE l] [h2 : GE k] [h3 : GE s] : GE (stp f l k s) := ⟨fun env => gw_bd (h.a env) fun _ => gw_bd (h1.a env) fun _ => gw_bd (h2.a env) fun _ => gw_bd (h3.a env) fun _ => gw_stpD _ _ _ _⟩
theorem gw_compL {mk : List D → M D} {t : D → Env → Option Env} {c : Env → M Bool} {el : Env → M D} [h : G1 mk] [h1 : GE c] [h2 : GE el] (env0 : Env) : ∀ (ds acc : List D), Gw (compL mk t c el env0 ds acc)
  | [], acc => h.a _
  | d :: ds, acc => by
    unfold compL
    split
    · exact gw_mno
    · exact gw_bdN (h1.a _) fun _ => gw_ite (gw_bdN (h2.a _) fun _ => gw_ite (gw_compL env0 ds _) gw_mno) (gw_compL env0 ds _)
instance {vs : List Nat} {mk : List D → M D} {m : Env → M (List D)} {t : D → Env → Option Env} {c : Env → M Bool} {el : Env → M D} [h0 : GE m] [h : G1 mk] [h1 : GE c] [h2 : GE el] : GE (cmp vs mk m t c el) := ⟨fun env => gw_bd (h0.a env) fun _ => gw_compL _ _ _⟩
instance {f : Env → M D} [h : GE f] : GE (itf f) := ⟨fun env => gw_bd (h.a env) gw_itm⟩
theorem gw_rng1 (ds : List D) : Gw (rng1M ds) := by unfold rng1M; (repeat' (first | exact gw_pur _ | exact gw_mno | exact gw_opt _ | exact gw_catL _ _ | exact gw_seqLT _ | exact gw_seqL _ | exact gw_seqM _ | exact gw_objK _ | exact gw_pyM _ | apply gw_bd | intro _ | split))
theorem gw_rng2 (ds : List D) : Gw (rng2M ds) := by unfold rng2M; (repeat' (first | exact gw_pur _ | exact gw_mno | exact gw_opt _ | exact gw_catL _ _ | exact gw_seqLT _ | exact gw_seqL _ | exact gw_seqM _ | exact gw_objK _ | exact gw_pyM _ | apply gw_bd | intro _ | split))
theorem gw_enuM (ds : List D) : Gw (enuM ds) := by unfold enuM; (repeat' (first | exact gw_pur _ | exact gw_mno | exact gw_opt _ | exact gw_catL _ _ | exact gw_seqLT _ | exact gw_seqL _ | exact gw_seqM _ | exact gw_objK _ | exact gw_pyM _ | apply gw_bd | intro _ | split))
theorem gw_zipM (ds : List D) : Gw (zipM ds) := by unfold zipM; (repeat' (first | exact gw_pur _ | exact gw_mno | exact gw_opt _ | exact gw_catL _ _ | exact gw_seqLT _ | exact gw_seqL _ | exact gw_seqM _ | exact gw_objK _ | exact gw_pyM _ | apply gw_bd | intro _ | split))
instance {t : Env → M (List D)} [h : GE t] : GE (itr1 t) := ⟨fun env => gw_bd (h.a env) gw_rng1⟩
instance {t : Env → M (List D)} [h : GE t] : GE (itr2 t) := ⟨fun env => gw_bd (h.a env) gw_rng2⟩
instance {t : Env → M (List D)} [h : GE t] : GE (itEn t) := ⟨fun env => gw_bd (h.a env) gw_enuM⟩
instance {t : Env → M (List D)} [h : GE t] : GE (itz t) := ⟨fun env => gw_bd (h.a env) gw_zipM⟩
/-! ### statements -/
theorem gs_lft {m : M α} {env : Env} {k : α → MS} (h : Gw m) (hk : ∀ x S, match k x S with | .ok _ T => Add S T | .ex _ _ T => Add S T | .no => True) (S : Store) : match lft m env k S with | .ok _ T => Add S T | .ex _ _ T => Add S T | .no => True := by
  unfold lft
  cases e : m S with
  | ok x T =>
    have h1 := h.ok e
    have h2 := hk x T
    show match k x T with | .ok _ T => Add S T | .ex _ _ T => Add S T | .no => True
    cases e2 : k x T with
    | ok y U => rw [e2] at h2; exact h1.trans h2
    | ex y env' U => rw [e2] at h2; exact h1.trans h2
    | no => trivial
  | ex x T => exact h.ex e
  | no => trivial
instance : GS pass := ⟨fun _ S => Add.refl S⟩
instance {g g' : Env → MS} [h : GS g] [h' : GS g'] : GS (seqS g g') := gs_of (fun env S x T e => by
    unfold seqS at e
    cases e1 : g env S with
    | ok f U =>
      have a := h.ok e1
      rw [e1] at e
      cases f with
      | nx env' => exact a.trans (h'.ok e)
      | _ => cases e; exact a
    | ex y env' U => rw [e1] at e; cases e
    | no => rw [e1] at e; cases e) (fun env S x env' T e => by
    unfold seqS at e
    cases e1 : g env S with
    | ok f U =>
      have a := h.ok e1
      rw [e1] at e
      cases f with
      | nx env' => exact a.trans (h'.ex e)
      | _ => cases e
    | ex y env' U => have a := h.ex e1; rw [e1] at e; cases e; exact a
    | no => rw [e1] at e; cases e)
instance {f : Env → M D} [h : GE f] : GS (ret f) := ⟨fun env => gs_lft (h.a env) fun _ S => Add.refl S⟩
instance {f : Env → M D} [h : GE f] : GS (drop f) := ⟨fun env => gs_lft (h.a env) fun _ S => Add.refl S⟩
instance {i : Nat} {f : Env → M D} [h : GE f] : GS (set i f) := ⟨fun env => gs_lft (h.a env) fun _ S => Add.refl S⟩
instance {f : Env → M D} {t : D → Env → Option Env} [h : GE f] : GS (asg f t) := ⟨fun env => gs_lft (h.a env) fun d S => by
  show match (match t d env with | some env' => RsS.ok (.nx env') S | none => .no) with | .ok _ T => Add S T | .ex _ _ T => Add S T | .no => True
  cases t d env with
  | none => trivial
  | some e => exact Add.refl S⟩
instance {i j : Nat} {t : Env → M (List D)} [h : GE t] : GS (par i j t) := ⟨fun env => gs_lft (h.a env) fun ds S => by
  match ds with
  | [] => trivial
  | [_] => trivial
  | [_, _] => exact Add.refl S
  | _ :: _ :: _ :: _ => trivial⟩
instance {p : Env → M Bool} {g g' : Env → MS} [h : GE p] [h1 : GS g] [h2 : GS g'] : GS (ifS p g g') := ⟨fun env => gs_lft (h.a env) fun b S => by
  cases b
  · exact h2.a env S
  · exact h1.a env S⟩
theorem gs_loop {t : D → Env → Option Env} {b : Env → MS} [h : GS b] : ∀ ds : List D, GS (loop t b ds)
  | [] => ⟨fun env S => by unfold loop; exact Add.refl S⟩
  | d :: ds => gs_of (fun env S x T e => by
      unfold loop at e
      cases e0 : t d env with
      | none => rw [e0] at e; cases e
      | some env1 =>
        rw [e0] at e
        cases e1 : b env1 S with
        | ok f U =>
          have a := h.ok e1
          simp only [e1] at e
          cases f with
          | nx env2 => exact a.trans ((gs_loop ds).ok e)
          | ct env2 => exact a.trans ((gs_loop ds).ok e)
          | bk env2 => cases e; exact a
          | rt d => cases e; exact a
        | ex y env2 U => simp only [e1] at e; cases e
        | no => simp only [e1] at e; cases e) (fun env S x env' T e => by
      unfold loop at e
      cases e0 : t d env with
      | none => rw [e0] at e; cases e
      | some env1 =>
        rw [e0] at e
        cases e1 : b env1 S with
        | ok f U =>
          have a := h.ok e1
          simp only [e1] at e
          cases f with
          | nx env2 => exact a.trans ((gs_loop ds).ex e)
          | ct env2 => exact a.trans ((gs_loop ds).ex e)
          | bk env2 => cases e
          | rt d => cases e
        | ex y env2 U => have a := h.ex e1; simp only [e1] at e; cases e; exact a
        | no => simp only [e1] at e; cases e)
instance {m : Env → M (List D)} {t : D → Env → Option Env} {b : Env → MS} [h : GE m] [h1 : GS b] : GS (forS m t b) := ⟨fun env => gs_lft (h.a env) fun ds S => (gs_loop ds).a env S⟩
instance {x : String} {f : Str} {t : Env → M (List D)} [h : GE t] : GS (rz1 x f t) := ⟨fun env => gs_lft (h.a env) fun ds S => by
  match ds with
  | [] => trivial
  | [_] => exact Add.refl S
  | _ :: _ :: _ => trivial⟩
instance {x : String} {f g : Str} {t : Env → M (List D)} [h : GE t] : GS (rz2 x f g t) := ⟨fun env => gs_lft (h.a env) fun ds S => by
  match ds with
  | [] => trivial
  | [_] => trivial
  | [_, _] => exact Add.refl S
  | _ :: _ :: _ :: _ => trivial⟩
instance {n m : Nat} {b : Env → MS} [h : GS b] : G1 (bodyD n m b) := ⟨fun ds => gw_of (fun S x T e => by
    unfold bodyD at e
    split at e
    · cases e1 : b (ent n ds) S with
      | ok f U =>
        have a := h.ok e1
        rw [e1] at e
        cases f <;> first | (cases e; exact a) | (cases e; done)
      | ex y env' U => rw [e1] at e; cases e
      | no => rw [e1] at e; cases e
    · cases e) (fun S x T e => by
    unfold bodyD at e
    split at e
    · cases e1 : b (ent n ds) S with
      | ok f U => rw [e1] at e; cases f <;> cases e
      | ex y env' U => have a := h.ex e1; rw [e1] at e; cases e; exact a
      | no => rw [e1] at e; cases e
    · cases e)⟩
end
end Fx

end
/-! ## Fx23 -/
section
namespace Fx
open PySem PySem.Spec PyProof.Rows L2
variable [tb : Tabl]
/-! ### def f(a, .., *v): what is left over is a new tuple -/
/-- the function of a def with n parameters ahead of its star -/
def starG (n : Nat) (g : List D → M D) : List D → M D := fun ds => if n ≤ ds.length ∧ ds.length ≤ sizeLine then g (ds.take n ++ [.tup (ds.drop n)]) else mno
structure FnSt (q : Bool) (P : Program) (w : World) (K : PySem.W.Frag) (mg : Str → Option Value) (base : Heap) (k : Nat) (f : Addr) (n : Nat) (g : List D → M D) : Prop where
  run : ∀ (A : Around) (outer : List PySem.Env) (s : Shared) (H : Hp) (us : List Value) (vs : List V) (Q : VK) (E : XK),
    (q = true → A.guards = some []) → Room k A → Env0 P w K mg base A outer s H → Vals vs us →
    spF K mg (starG n g) vs H Q E → codeAny (model P w) A (.call (.ref f) ⟨us, []⟩) (CR (L2.CX P w) outer P w H s Q E) s
section
variable {P : Program} {w : World} {K : PySem.W.Frag} {mg : Str → Option Value} {base : Heap}
theorem fn_stbody {b0 : Bool} {x qual : Str} {st : Stmt} {f : Addr} {fd : FuncData} {N ps : List Str} {pv : Str} {k : Nat} {b : Env → MS} (F : Fun K x qual st f fd) (S : FnScope N (ps ++ [pv]) (defScope st))
    (hb : ∀ us rest : List Value, us.length = ps.length → bindArgs fd ⟨us ++ rest, []⟩ = (newTuple rest >>= fun t => pure (ps.zip us ++ [(pv, t)])))
    (hbody : ∀ (cd : Value) (A : Around) (outer : List PySem.Env) (s : Shared) (H : Hp) (E : XK), (∃ o, K.lookup f = some o ∧ o.data = .func fd ∧ fd.code = cd) → (b0 = true → A.guards = some []) → Room k (A.deeper (envOfC qual (defScope st) s.heap.objs.size f cd)) →
      FSs (bodyCx P w K mg base N qual (defScope st) f cd A outer s H E) (WE E) (defBody st) b) : FnSt b0 P w K mg base (k + 1) f ps.length (bodyD N.length (ps.length + 1) b) := by
  obtain ⟨oc, od, kV, doc, pm, an, cd, ct, osl, rfl, lk, hcd⟩ := F.ex
  refine ⟨fun A outer s H us vs Q E hG room env0 rv want => ?_⟩
  obtain ⟨F', ad, S', ds, rs, dp, h⟩ := want
  unfold starG at h
  by_cases c : ps.length ≤ ds.length ∧ ds.length ≤ sizeLine
  case neg => rw [if_neg c] at h; exact h.elim
  rw [if_pos c] at h
  obtain ⟨c1, c2⟩ := c
  have el := dp.length
  have es : vs = vs.take ps.length ++ vs.drop ps.length := (List.take_append_drop _ _).symm
  rw [es] at rv
  obtain ⟨u1, u2, eu, r1, r2⟩ := StX.vals_split rv
  subst eu
  have hl1 : u1.length = ps.length := by rw [← r1.length, List.length_take]; omega
  have hz : (vs.drop ps.length).length ≤ sizeLine := by rw [List.length_drop]; omega
  have hl2 : u2.length ≤ sizeLine := by rw [← r2.length]; exact hz
  have hn : H s.heap.objs.size = Option.none := env0.hok.fresh (Nat.le_refl _)
  let o : Obj := { cls := .type "tuple", data := .seq u2.toArray }
  refine StX.run_bnd lk hcd S room env0 (G := fun xs H2 => ∃ p, H p = Option.none ∧ xs = vs.take ps.length ++ [V.ref p] ∧ H2 = upd H p (.frz o (.tup (vs.drop ps.length)))) (fun A' Ex Q' hq => ?_) fun s2 H2 xs ⟨p, hp, ex, eH⟩ hr' => ?_
  · rw [hb u1 u2 hl1]
    refine wpAny_bind (wpAny_newTuple (wpAny_pure ?_) hl2)
    have new : ObjOk P w (upd H s.heap.objs.size (.frz o (.tup (vs.drop ps.length)))) (s.heap.push o) s.heap.objs.size (.frz o (.tup (vs.drop ps.length))) := ⟨Heap.get?_push_size _ rfl, hz, u2, r2, ⟨_, Heap.get?_push_size _ rfl, rfl, _, rfl⟩⟩
    have un := StX.un_laid (fs := frs outer) (s := s) (o := o) (u := .frz o (.tup (vs.drop ps.length))) hn
    have z := hq _ _ (vs.take ps.length ++ [V.ref s.heap.objs.size]) (u1 ++ [Value.ref s.heap.objs.size]) (StX.env0_laid env0 new) un rfl (fun e s' => StX.cxUp outer s H _ _ E e s' un (fun b o q => Heap.get?_push_of_some _ q) rfl) (r1.append (.cons rfl .nil))
      (by rw [List.length_append, List.length_append, List.length_take]; simp; omega) ⟨_, hn, rfl, rfl⟩
    rw [List.zip_append hl1.symm] at z
    exact z
  · subst ex eH
    have body := hbody cd A outer s2 (upd H p (.frz o (.tup (vs.drop ps.length)))) E ⟨_, lk, rfl, rfl⟩ hG hr'
    have nx := Nx.alloc (o := .frz o (.tup (vs.drop ps.length))) rs hp
    have rs2 := rs.alloc (o := .frz o (.tup (vs.drop ps.length))) hp
    have g := nx.gr
    have dp2 : DPs K (upd F' p (.frz o (.tup (vs.drop ps.length)))) ad S'.length (ds.take ps.length ++ [.tup (ds.drop ps.length)]) (vs.take ps.length ++ [V.ref p]) :=
      DPs.append (DPs.mono g _ _ (dp.take _)) (DPs.one ⟨p, vs.drop ps.length, rfl, .inl ⟨o, upd_same, rfl⟩, DPs.mono g _ _ (dp.drop _)⟩)
    refine ⟨_, body.run, ?_⟩
    refine ⟨upd F' p (.frz o (.tup (vs.drop ps.length))), ad, ent N.length (ds.take ps.length ++ [D.tup (ds.drop ps.length)]), S', re_ent dp2, rs2, ?_⟩
    have hlen : (ds.take ps.length ++ [D.tup (ds.drop ps.length)]).length = ps.length + 1 := by rw [List.length_append, List.length_take]; simp; omega
    simp only [bodyD, if_pos hlen] at h
    cases q : b (ent N.length (ds.take ps.length ++ [D.tup (ds.drop ps.length)])) S' with
    | no => rw [q] at h; exact h
    | ex x1 env1 S1 => rw [q] at h; exact fun c dd σ' F1 ad1 H1 n1 r1 _ _ er => h c dd F1 ad1 H1 (nx.trans n1) r1 er
    | ok fl S1 =>
      rw [q] at h
      cases fl with
      | rt d => exact fun v F1 ad1 H1 n1 r1 d1 => h v F1 ad1 H1 (nx.trans n1) r1 d1
      | nx env1 => exact fun σ' F1 ad1 H1 n1 r1 _ _ => h .non F1 ad1 H1 (nx.trans n1) r1 rfl
      | bk env1 => exact h.elim
      | ct env1 => exact h.elim
structure StAt (K : PySem.W.Frag) (mg : Str → Option Value) (x : Str) (st : Stmt) (ps : List Str) (pv : Str) : Prop where
  ex : ∃ (a : Addr) (fd : FuncData), mg x = some (.ref a) ∧ Fun K x x st a fd ∧ ∀ us rest : List Value, us.length = ps.length → bindArgs fd ⟨us ++ rest, []⟩ = (newTuple rest >>= fun t => pure (ps.zip us ++ [(pv, t)]))
structure SAt (b0 : Bool) (P : Program) (w : World) (K : PySem.W.Frag) (mg : Str → Option Value) (base : Heap) (k : Nat) (x : Str) (n : Nat) (g : List D → M D) : Prop where
  ex : ∃ a : Addr, mg x = some (.ref a) ∧ PySem.W.keepIn K (.ref a) = true ∧ FnSt b0 P w K mg base k a n g
theorem s_at {b0 : Bool} {x : Str} {st : Stmt} {N ps : List Str} {pv : Str} {k : Nat} {b : Env → MS} (T : StAt K mg x st ps pv) (S : FnScope N (ps ++ [pv]) (defScope st))
    (hbody : ∀ (f : Addr) (cd : Value) (A : Around) (outer : List PySem.Env) (s : Shared) (H : Hp) (E : XK), CodeAt K mg x cd → (b0 = true → A.guards = some []) → Room k (A.deeper (envOfC x (defScope st) s.heap.objs.size f cd)) →
      FSs (bodyCx P w K mg base N x (defScope st) f cd A outer s H E) (WE E) (defBody st) b) : SAt b0 P w K mg base (k + 1) x ps.length (bodyD N.length (ps.length + 1) b) := by
  obtain ⟨a, fd, h1, h2, h3⟩ := T.ex
  exact ⟨a, h1, h2.kp, fn_stbody h2 S h3 fun cd A outer s H E hc => hbody a cd A outer s H E (by
    obtain ⟨o, e1, e2, e3⟩ := hc
    exact ⟨a, o, fd, h1, e1, e2, e3⟩)⟩
theorem st_mk {x : Str} {st : Stmt} {h : Heap} {f : Addr} {oc : Value} {od an : Option Addr} {osl : Array (Option Value)} {kV doc pm cdv ct : Value} {ps : List Str} {pv : Str} (X : K.In h) (G : h.Ns mainGlobals mg)
    (a : PySem.W.nsIn K mainGlobals x = some (some (.ref f))) (l : K.lookup f = some ⟨oc, od, .func (PySem.W.fnOf x x (defArgs st) (defBody st) (defScope st) .none kV doc pm an cdv ct), osl⟩)
    (c : PySem.W.codeIn K cdv x = true) (k : PySem.W.keepIn K (.ref f) = true)
    (hb : ∀ us rest : List Value, us.length = ps.length → bindArgs (PySem.W.fnOf x x (defArgs st) (defBody st) (defScope st) .none kV doc pm an cdv ct) ⟨us ++ rest, []⟩ = (newTuple rest >>= fun t => pure (ps.zip us ++ [(pv, t)]))) : StAt K mg x st ps pv :=
  ⟨f, _, PySem.W.mg_of X G a, fun_mk l c k, hb⟩
end
section
variable {X : Cx} {W : WX} {k n : Nat} {g : List D → M D} {x : Str} {pos p : Pos} {e : Expr} {es : List Expr} {t : Env → M (List D)}
theorem fe_callS {b0 : Bool} (G : SAt b0 X.prog X.w X.K X.mg X.base k x n g) (hG : b0 = true → X.A.guards = some []) (hr : Room k X.A) (hg : Gl X x) (tk : Takes X W)
    (ha : FA X W (e :: es) t) (hdb : (x == ("__debug__" : Str)) = false := by decide) (he : starEach (e :: es) X.env = (false, eval e X.env) :: starEach es X.env := by rfl) (hpl : (backTo pos (starEach es X.env)).any (·.1) = false := by rfl) :
    FE X W (.Call (.Name x p) (e :: es) [] pos) (cal t (starG n g)) := by
  obtain ⟨fa, hm, hk, F⟩ := G.ex
  refine ⟨⟨fun pins s σ H Q I ⟨F', ad, env, S, re, rs, h⟩ => ?_⟩⟩
  have args : tL X W t σ H (fun vs H1 => spF X.K X.mg (starG n g) vs H1 Q fun cls dd H' => W cls dd σ H') := ⟨F', ad, env, S, re, rs, Fin.seq re h fun F1 ad1 S1 ds vs H1 n1 re1 rs1 dp1 h1 => fin_sp rs1 dp1 h1⟩
  refine wpAny_Call_Name_kw (ld_glob I hg hm (PySem.W.callWith_K (h₀ := X.base) I.ok.mod.kin hk (thn (ha.run.run pos pins s σ H _ I args) fun us s1 ⟨vs, H1, I1, r, q⟩ => ⟨I1.kIn, ?_⟩) he hpl) hdb)
  refine wpAny_call (codeAny_mono (F.run X.A X.stack s1 H1 us vs Q _ hG hr I1.env0 r q) fun res s' out => ?_)
  match res, out with
  | .error z, out => exact tk z s' (XE.of_call I1 (fun _ _ _ q => q) out)
  | .ok (.ret u), out => exact I1.after out
/-- *e in a display or in an argument list -/
def stc (f : Env → M D) (t : Env → M (List D)) : Env → M (List D) := fun env => bd (f env) fun x => bd (seqLT x) fun xs => bd (t env) fun ys => pur (xs ++ ys)
theorem fa_star {f : Env → M D} {p2 : Pos} (he : FE X W e f) (hr : FA X W es t) (hs : starEach (.Starred e p2 :: es) X.env = (true, eval e X.env) :: starEach es X.env := by rfl) : FA X W (.Starred e p2 :: es) (stc f t) := by
  refine ⟨PA.weak (StX.pa_star he.run hr.run hs) fun σ H Q ⟨F, ad, env, S, re, rs, h⟩ => ?_⟩
  refine ⟨F, ad, env, S, re, rs, Fin.seq re h fun F1 ad1 S1 d v H1 n1 re1 rs1 dp1 h1 => ?_⟩
  obtain ⟨xs, S2, e2, h1⟩ := Fin.look h1 fun _ _ => seqLT_ex
  obtain ⟨rfl, a, vs, rfl, hq, dq⟩ := seqLT_at rs1 dp1 e2
  refine ⟨a, vs, rfl, hq.symm, F1, ad1, env, S2, re1, rs1, Fin.seq re1 h1 fun F2 ad2 S3 ds ws H2 n2 re2 rs2 dp2 h2 => ?_⟩
  exact Fin.pure (v := vs ++ ws) rs2 h2 (DPs.append (DPs.mono n2.gr _ _ dq) dp2)
end
end Fx

end
/-! ## Fx24 -/
section
namespace Fx
open PySem PySem.Spec PyProof.Rows L2
variable [tb : Tabl]
/-! ### xs.index(x), xs a list of texts -/
def idxL (x y : D) : M D := bd (seqL x) fun ds => bd (opt (strsOf ds)) fun xs => bd (opt (strOf y)) fun z => bd (opt (xs.findIdx? fun a => decide (a = z))) fun j => pur (.int (j : Nat))
def idxE (f : Env → M D) (t : Env → M (List D)) : Env → M D := fun env => bd (f env) fun x => bd (seqL x) fun _ => bd (t env) fun ds => match ds with
  | [y] => idxL x y
  | _ => mno
section
variable {X : Cx} {W : WX} {a e : Expr} {es : List Expr} {f : Env → M D} {t : Env → M (List D)}
theorem fe_index {apos cpos : Pos} (x : Txt1 X a "index" apos cpos e es) (ho : FE X W a f) (ha : FA X W (e :: es) t) : FE X W (.Call (.Attribute a "index" apos) (e :: es) [] cpos) (idxE f t) := by
  refine ⟨PE.weak (pe_bm PySem.F.plainAttrs_list PySem.F.slot_list_index PySem.F.type_list_index mt_index ho.run ha.run x.base x.few x.line x.star x.plain) fun σ H Q ⟨F, ad, env, S, re, rs, h⟩ => ?_⟩
  refine ⟨F, ad, env, S, re, rs, Fin.seq re h fun F1 ad1 S1 x v H1 n1 re1 rs1 dp1 h1 => ?_⟩
  obtain ⟨xs0, S2, e0, h1⟩ := Fin.look h1 fun _ _ => seqL_ex
  obtain ⟨rfl, p, vs0, ev, hq0, _⟩ := seqL_at rs1 dp1 e0
  refine ⟨by rw [ev]; exact .inl ⟨rfl, _, hq0⟩, F1, ad1, env, _, re1, rs1, Fin.seq re1 h1 fun F2 ad2 S3 ds us H2 n2 re2 rs2 dp2 h2 => ?_⟩
  have dpx := DP.mono n2.gr x v dp1
  match ds, dp2, h2 with
  | [y], dp2, h2 =>
    obtain ⟨w, rfl, dy⟩ := dp2.one_inv
    obtain ⟨ds1, S4, e1, h3⟩ := Fin.look h2 fun _ _ => seqL_ex
    obtain ⟨rfl, p1, vs, ev1, hq, dv⟩ := seqL_at rs2 dpx e1
    obtain ⟨xs, S5, e2, h4⟩ := Fin.look h3 fun _ _ => opt_ex
    obtain ⟨rfl, q2⟩ := opt_ok e2
    obtain ⟨z, S6, e3, h5⟩ := Fin.look h4 fun _ _ => opt_ex
    obtain ⟨rfl, q3⟩ := opt_ok e3
    obtain ⟨j, S7, e4, h6⟩ := Fin.look h5 fun _ _ => opt_ex
    obtain ⟨rfl, q4⟩ := opt_ok e4
    have hv := strsOf_at dv q2
    subst hv
    have hy : y = .str z := by cases y <;> first | (cases q3; rfl) | (cases q3; done)
    subst hy
    cases dy
    obtain ⟨hj, hz, hno⟩ := List.findIdx?_eq_some_iff_getElem.mp q4
    have hz : xs[j] = z := of_decide_eq_true hz
    refine ⟨p1, xs.map V.str, .str z, j, .str z, ev1, rfl, hq, rfl, flat_strs xs, by rw [List.getElem?_map, List.getElem?_eq_getElem hj, hz]; rfl, by simp [eqV], fun m z' hm hz' => ?_, ?_⟩
    · have hm2 : m < xs.length := by omega
      rw [List.getElem?_map, List.getElem?_eq_getElem hm2] at hz'
      cases hz'
      have := hno m hm
      have : ¬ xs[m] = z := by simpa using this
      simp [eqV, this]
    · exact h6 (V.int (j : Nat)) F2 ad2 H2 .refl rs2 rfl
end
end Fx

end
/-! ## Fx25 -/
section
namespace Fx
open PySem PySem.Spec PyProof.Rows L2
variable [tb : Tabl]
/-! ### x in xs: plain data in a list -/
def indD (neg : Bool) (x y : D) : M D := bd (pyM x) fun p => bd (pyM y) fun q => match q with
  | .list ds => if SeqAt.shaped p = true ∧ SeqAt.shaped (.list ds) = true then pur (.bl (if neg = true then !(ds.any fun z => PyData.eqv z p) else ds.any fun z => PyData.eqv z p)) else mno
  | _ => mno
section
variable {X : Cx}
theorem of_ind (hu : X.A.units + 65 < cLine) : OpF X (compareOp .In) (indD false) := by
  refine ⟨_, op_inD hu, fun W σ F ad S H x y v w Q rs dx dy h => ?_⟩
  obtain ⟨p, S1, e1, h1⟩ := Fin.look h fun _ _ => pyM_ex
  obtain ⟨rfl, d1⟩ := pyM_at rs dx e1
  obtain ⟨q, S2, e2, h2⟩ := Fin.look h1 fun _ _ => pyM_ex
  obtain ⟨rfl, d2⟩ := pyM_at rs dy e2
  cases q <;> first
    | exact h2.elim
    | skip
  rename_i ds
  by_cases c : SeqAt.shaped p = true ∧ SeqAt.shaped (.list ds) = true
  · simp only [if_pos c, Bool.false_eq_true, if_false] at h2
    exact ⟨p, ds, d1, d2, c.1, c.2, Fin.pure rs h2 rfl⟩
  · simp only [if_neg c] at h2
    exact h2.elim
theorem of_nind (hu : X.A.units + 65 < cLine) : OpF X (compareOp .NotIn) (indD true) := by
  refine ⟨_, op_notInD hu, fun W σ F ad S H x y v w Q rs dx dy h => ?_⟩
  obtain ⟨p, S1, e1, h1⟩ := Fin.look h fun _ _ => pyM_ex
  obtain ⟨rfl, d1⟩ := pyM_at rs dx e1
  obtain ⟨q, S2, e2, h2⟩ := Fin.look h1 fun _ _ => pyM_ex
  obtain ⟨rfl, d2⟩ := pyM_at rs dy e2
  cases q <;> first
    | exact h2.elim
    | skip
  rename_i ds
  by_cases c : SeqAt.shaped p = true ∧ SeqAt.shaped (.list ds) = true
  · simp only [if_pos c, if_true] at h2
    exact ⟨p, ds, d1, d2, c.1, c.2, Fin.pure rs h2 rfl⟩
  · simp only [if_neg c] at h2
    exact h2.elim
theorem hu65 {k : Nat} {A : Around} (r : Room k A) : A.units + 65 < cLine := by have := r.un; omega
end
end Fx

end
/-! ## K18a -/
section
namespace K18
open PySem PySem.Spec PyProof.Rows L2 Fx
variable [tb : Tabl]

def top (i : Nat) : Stmt := PySem.Challenge.pw_lateforms_k18_plain_steps_done.main.body.getD i (.Pass ⟨0, 0, 0, 0⟩)
abbrev s_law_feed : Stmt := top 36
abbrev s_law_document : Stmt := top 47
abbrev s_law_outcome : Stmt := top 46
abbrev s_law_laps : Stmt := top 38
abbrev s_law_draw : Stmt := top 37
abbrev s_law_any : Stmt := top 39
abbrev s_law_fitting : Stmt := top 42
abbrev s_law_values : Stmt := top 43
abbrev s_law_house : Stmt := top 44
abbrev s_law_lot : Stmt := top 40
abbrev s_law_classes : Stmt := top 41
abbrev s_is_integer : Stmt := top 15
abbrev s_classes_of : Stmt := top 31
abbrev s_check_number : Stmt := top 32
abbrev s_is_link : Stmt := top 20
abbrev s_unlinked : Stmt := top 34
abbrev s_dropped : Stmt := top 27
abbrev s_law_some_item : Stmt := top 55
abbrev s_law_some_lots : Stmt := top 56
abbrev s_law_is_integer : Stmt := top 45
abbrev s_law_suits : Stmt := top 48
abbrev s_law_made_due : Stmt := top 49
abbrev s_form_of : Stmt := top 18
abbrev s_in_range : Stmt := top 22
abbrev s_is_number : Stmt := top 16
abbrev s_suits : Stmt := top 23
abbrev s_all_suit : Stmt := top 33
abbrev s_made_by : Stmt := top 28
abbrev s_made : Stmt := top 25
abbrev s_law_make : Stmt := top 57
abbrev s_law_making_right : Stmt := top 58
abbrev s_law_some_number : Stmt := top 53
abbrev s_law_is_member : Stmt := top 50
abbrev s_law_some_label : Stmt := top 54
abbrev s_law_written_due : Stmt := top 51
abbrev s_law_dropped_due : Stmt := top 52
abbrev s_place_of : Stmt := top 19
abbrev s_with_value : Stmt := top 30
abbrev s_written_by : Stmt := top 29
abbrev s_written : Stmt := top 26
abbrev s_law_others_right : Stmt := top 59
abbrev s_law : Stmt := top 60
def tabs_LateError : List (String × Bool) := [("InvalidStep", true), ("UnknownObject", true)]
def tabI_InvalidPaper : List (String × Bool) := [("InvalidStep", false), ("UnknownObject", false)]
def tabI_InvalidStep : List (String × Bool) := [("InvalidStep", true), ("UnknownObject", false)]
def tabI_InvalidText : List (String × Bool) := [("InvalidStep", false), ("UnknownObject", false)]
def tabI_PaperError : List (String × Bool) := [("InvalidStep", false), ("UnknownObject", false)]
def tabI_StoreError : List (String × Bool) := [("InvalidStep", true), ("UnknownObject", true)]
def tabI_TextError : List (String × Bool) := [("InvalidStep", false), ("UnknownObject", false)]
def tabI_UnfitExpression : List (String × Bool) := [("InvalidStep", false), ("UnknownObject", false)]
def tabI_UnknownObject : List (String × Bool) := [("InvalidStep", false), ("UnknownObject", true)]
def tabI_GoneCell_NothingToUndo_InvalidPace_InvalidCommand : List (String × Bool) := [("InvalidStep", false), ("UnknownObject", false)]
def tabI_ValueError : List (String × Bool) := [("InvalidStep", true), ("UnknownObject", true)]

structure Tx (w : World) (K : PySem.W.Frag) (mg : Str → Option Value) (base : Heap) : Prop where
  d_law_feed : DefAt K mg "_law_feed" s_law_feed ["_law_script"]
  d_law_document : DefAt K mg "_law_document" s_law_document []
  d_law_outcome : DefAt K mg "_law_outcome" s_law_outcome ["_law_ask"]
  d_law_laps : DefAt K mg "_law_laps" s_law_laps ["_law_script", "_law_count"]
  d_law_draw : DefAt K mg "_law_draw" s_law_draw ["_law_feed_here", "_law_many"]
  d_law_any : DefAt K mg "_law_any" s_law_any ["_law_feed_here", "_law_some"]
  d_law_fitting : DefAt K mg "_law_fitting" s_law_fitting ["_law_feed_here", "_law_sort", "_law_members"]
  d_law_values : DefAt K mg "_law_values" s_law_values ["_law_feed_here", "_law_lot_here", "_law_members"]
  d_law_house : DefAt K mg "_law_house" s_law_house ["_law_feed_here", "_law_classes_here", "_law_most"]
  d_law_lot : DefAt K mg "_law_lot" s_law_lot ["_law_feed_here", "_law_names"]
  d_law_classes : DefAt K mg "_law_classes" s_law_classes ["_law_feed_here"]
  d_is_integer : DefAt K mg "is_integer" s_is_integer ["thing"]
  d_classes_of : DefAt K mg "classes_of" s_classes_of ["plain"]
  d_check_number : DefAt K mg "check_number" s_check_number ["plain", "number"]
  d_is_link : DefAt K mg "is_link" s_is_link ["kind"]
  d_unlinked : DefAt K mg "unlinked" s_unlinked ["form", "values", "number"]
  d_dropped : DefAt K mg "dropped" s_dropped ["plain", "number"]
  d_law_some_item : DefAt K mg "_law_some_item" s_law_some_item ["_law_feed_here", "_law_house_here"]
  d_law_some_lots : DefAt K mg "_law_some_lots" s_law_some_lots ["_law_feed_here", "_law_house_here", "_law_own"]
  d_law_is_integer : DefAt K mg "_law_is_integer" s_law_is_integer ["_law_item"]
  d_law_suits : DefAt K mg "_law_suits" s_law_suits ["_law_house_here", "_law_sort", "_law_item"]
  d_law_made_due : DefAt K mg "_law_made_due" s_law_made_due ["_law_house_here", "_law_own", "_law_lots"]
  d_form_of : DefAt K mg "form_of" s_form_of ["schema", "cls"]
  d_in_range : DefAt K mg "in_range" s_in_range ["kind", "value"]
  d_is_number : DefAt K mg "is_number" s_is_number ["thing"]
  d_suits : DefAt K mg "suits" s_suits ["kind", "value", "classes"]
  d_all_suit : DefAt K mg "all_suit" s_all_suit ["form", "values", "classes"]
  d_made_by : DefAt K mg "made_by" s_made_by ["plain", "step"]
  d_made : StAt K mg "made" s_made ["plain", "cls"] "values"
  d_law_make : DefAt K mg "_law_make" s_law_make ["_law_house_here", "_law_own", "_law_lots"]
  d_law_making_right : DefAt K mg "_law_making_right" s_law_making_right ["_law_feed_here", "_law_house_here"]
  d_law_some_number : DefAt K mg "_law_some_number" s_law_some_number ["_law_feed_here", "_law_house_here"]
  d_law_is_member : DefAt K mg "_law_is_member" s_law_is_member ["_law_house_here", "_law_item"]
  d_law_some_label : DefAt K mg "_law_some_label" s_law_some_label ["_law_feed_here", "_law_house_here", "_law_n"]
  d_law_written_due : DefAt K mg "_law_written_due" s_law_written_due ["_law_house_here", "_law_n", "_law_label", "_law_item"]
  d_law_dropped_due : DefAt K mg "_law_dropped_due" s_law_dropped_due ["_law_house_here", "_law_n"]
  d_place_of : DefAt K mg "place_of" s_place_of ["form", "field"]
  d_with_value : DefAt K mg "with_value" s_with_value ["row", "j", "value"]
  d_written_by : DefAt K mg "written_by" s_written_by ["plain", "step"]
  d_written : DefAt K mg "written" s_written ["plain", "number", "field", "value"]
  d_law_others_right : DefAt K mg "_law_others_right" s_law_others_right ["_law_feed_here", "_law_house_here"]
  d_law : DefAt K mg "law" s_law ["_law_script"]
  b_ValueError : mg "ValueError" = none
  b_all : mg "all" = none
  b_bool : mg "bool" = none
  b_dict : mg "dict" = none
  b_enumerate : mg "enumerate" = none
  b_int : mg "int" = none
  b_isinstance : mg "isinstance" = none
  b_len : mg "len" = none
  b_list : mg "list" = none
  b_min : mg "min" = none
  b_range : mg "range" = none
  b_repr : mg "repr" = none
  b_str : mg "str" = none
  b_tuple : mg "tuple" = none
  b_zip : mg "zip" = none
  n_LateError : ∃ D, mg "LateError" = some (.ref D) ∧ ∀ p ∈ tabs_LateError, SubX K mg p.1 (.ref D) p.2
  x_InvalidStep : XAt2 K mg (Str.ofString "InvalidStep") "step" "word"
  x_UnknownObject : XAt1 K mg (Str.ofString "UnknownObject") "number"
  L_InvalidStep : XLook K mg "InvalidStep" ["at", "field", "number", "path", "row", "step", "word"]
  L_UnknownObject : XLook K mg "UnknownObject" ["at", "field", "number", "path", "row", "step", "word"]
  k_InvalidPaper : ∀ p ∈ tabI_InvalidPaper, KitAt K mg p.1 "InvalidPaper" p.2
  k_InvalidStep : ∀ p ∈ tabI_InvalidStep, KitAt K mg p.1 "InvalidStep" p.2
  k_InvalidText : ∀ p ∈ tabI_InvalidText, KitAt K mg p.1 "InvalidText" p.2
  k_PaperError : ∀ p ∈ tabI_PaperError, KitAt K mg p.1 "PaperError" p.2
  k_StoreError : ∀ p ∈ tabI_StoreError, KitAt K mg p.1 "StoreError" p.2
  k_TextError : ∀ p ∈ tabI_TextError, KitAt K mg p.1 "TextError" p.2
  k_UnfitExpression : ∀ p ∈ tabI_UnfitExpression, KitAt K mg p.1 "UnfitExpression" p.2
  k_UnknownObject : ∀ p ∈ tabI_UnknownObject, KitAt K mg p.1 "UnknownObject" p.2
  k_GoneCell_NothingToUndo_InvalidPace_InvalidCommand : ∀ p ∈ tabI_GoneCell_NothingToUndo_InvalidPace_InvalidCommand, KitTAt K mg p.1 ["GoneCell", "NothingToUndo", "InvalidPace", "InvalidCommand"] p.2
  kb_ValueError : ∀ p ∈ tabI_ValueError, KitBAt K mg p.1 "ValueError" p.2
  l_law_making_right : ∃ c P, CodeAt K mg "_law_making_right" (.ref c) ∧ LamX.TabB base mg c P ∧ (P, ("_law_making_right.<locals>.<lambda>" : Str)) ∈ tb.T ∧ ∀ p ∈ tb.T, p.1 = P → p.2 = "_law_making_right.<locals>.<lambda>"
  l_law_others_right : ∃ c P, CodeAt K mg "_law_others_right" (.ref c) ∧ LamX.TabB base mg c P ∧ (P, ("_law_others_right.<locals>.<lambda>" : Str)) ∈ tb.T ∧ ∀ p ∈ tb.T, p.1 = P → p.2 = "_law_others_right.<locals>.<lambda>"
  l_law : ∃ c P, CodeAt K mg "law" (.ref c) ∧ LamX.TabB base mg c P ∧ (P, ("law.<locals>.<lambda>" : Str)) ∈ tb.T ∧ ∀ p ∈ tb.T, p.1 = P → p.2 = "law.<locals>.<lambda>"

def hbody (st : Stmt) : List Stmt := match defBody st with
  | [.Try _ [.ExceptHandler _ _ b _] _ _ _] => b
  | [_, .Try _ [.ExceptHandler _ _ b _] _ _ _, _] => b
  | _ => []
def bs_law_outcome (a dd : Addr) (y : String) : Fx.Env → MS := (seqS (set 3 (dsp mkL (cns (isE a dd 2 (tabI_PaperError.lookup y)) (cns (isE a dd 2 (tabI_StoreError.lookup y)) (cns (isE a dd 2 (tabI_TextError.lookup y)) (fun _ => pur []))))))
  (seqS (set 4 (dsp mkL (cns (isE a dd 2 (tabI_InvalidPaper.lookup y)) (cns (isE a dd 2 (tabI_UnknownObject.lookup y)) (cns (isE a dd 2 (tabI_InvalidStep.lookup y)) (fun _ => pur []))))))
  (seqS (set 4 (bin (addD mkL) (getv 4) (dsp mkL (cns (isE a dd 2 (tabI_UnfitExpression.lookup y)) (cns (isE a dd 2 (tabI_InvalidText.lookup y)) (fun _ => pur []))))))
  (seqS (ifS (orB (notB (tst (isE a dd 2 (tabI_ValueError.lookup y)))) (tst (isE a dd 2 (tabI_GoneCell_NothingToUndo_InvalidPace_InvalidCommand.lookup y)))) (set 4 (dsp mkL (fun _ => pur []))) pass)
  (seqS (ifS (andB (tst (bin eqD (getv 4) (dsp mkL (cns (fun _ => pur (.bl true)) (cns (fun _ => pur (.bl false)) (cns (fun _ => pur (.bl false)) (cns (fun _ => pur (.bl false)) (cns (fun _ => pur (.bl false)) (fun _ => pur []))))))))) (tst (bin eqD (getv 3) (dsp mkL (cns (fun _ => pur (.bl true)) (cns (fun _ => pur (.bl false)) (cns (fun _ => pur (.bl false)) (fun _ => pur [])))))))) (set 1 (dsp mkT (cns (fun _ => pur (.str "paper")) (cns (fldE a dd 2 "word") (cns (fldE a dd 2 "at") (fun _ => pur [])))))) pass)
  (seqS (ifS (andB (tst (bin eqD (getv 4) (dsp mkL (cns (fun _ => pur (.bl false)) (cns (fun _ => pur (.bl true)) (cns (fun _ => pur (.bl false)) (cns (fun _ => pur (.bl false)) (cns (fun _ => pur (.bl false)) (fun _ => pur []))))))))) (tst (bin eqD (getv 3) (dsp mkL (cns (fun _ => pur (.bl false)) (cns (fun _ => pur (.bl true)) (cns (fun _ => pur (.bl false)) (fun _ => pur [])))))))) (set 1 (dsp mkT (cns (fun _ => pur (.str "object")) (cns (fldE a dd 2 "number") (fun _ => pur []))))) pass)
  (seqS (ifS (andB (tst (bin eqD (getv 4) (dsp mkL (cns (fun _ => pur (.bl false)) (cns (fun _ => pur (.bl false)) (cns (fun _ => pur (.bl true)) (cns (fun _ => pur (.bl false)) (cns (fun _ => pur (.bl false)) (fun _ => pur []))))))))) (tst (bin eqD (getv 3) (dsp mkL (cns (fun _ => pur (.bl false)) (cns (fun _ => pur (.bl true)) (cns (fun _ => pur (.bl false)) (fun _ => pur [])))))))) (set 1 (dsp mkT (cns (fun _ => pur (.str "step")) (cns (fldE a dd 2 "step") (cns (fldE a dd 2 "word") (fun _ => pur [])))))) pass)
  (seqS (ifS (andB (tst (bin eqD (getv 4) (dsp mkL (cns (fun _ => pur (.bl false)) (cns (fun _ => pur (.bl false)) (cns (fun _ => pur (.bl false)) (cns (fun _ => pur (.bl true)) (cns (fun _ => pur (.bl false)) (fun _ => pur []))))))))) (tst (bin eqD (getv 3) (dsp mkL (cns (fun _ => pur (.bl false)) (cns (fun _ => pur (.bl true)) (cns (fun _ => pur (.bl false)) (fun _ => pur [])))))))) (set 1 (dsp mkT (cns (fun _ => pur (.str "misfit")) (cns (fldE a dd 2 "path") (fun _ => pur []))))) pass)
  (ifS (andB (tst (bin eqD (getv 4) (dsp mkL (cns (fun _ => pur (.bl false)) (cns (fun _ => pur (.bl false)) (cns (fun _ => pur (.bl false)) (cns (fun _ => pur (.bl false)) (cns (fun _ => pur (.bl true)) (fun _ => pur []))))))))) (tst (bin eqD (getv 3) (dsp mkL (cns (fun _ => pur (.bl false)) (cns (fun _ => pur (.bl false)) (cns (fun _ => pur (.bl true)) (fun _ => pur [])))))))) (set 1 (dsp mkT (cns (fun _ => pur (.str "text")) (cns (fldE a dd 2 "row") (cns (fldE a dd 2 "field") (fun _ => pur [])))))) pass)))))))))
def sg_law_outcome (a dd : Addr) (y : String) : Fx.Env → MS := if y = "InvalidStep" then bs_law_outcome a dd "InvalidStep" else if y = "UnknownObject" then bs_law_outcome a dd "UnknownObject" else fun _ _ => .no
def qf_law_outcome (e : Ex) : M D := fun S => match e.fs with
  | [(n0, d0), (n1, d1)] => if e.cls = "InvalidStep" ∧ n0 = "word" ∧ n1 = "step" then .ok (.tup [.str "step", d1, d0]) S else .no
  | [(n0, d0)] => if e.cls = "UnknownObject" ∧ n0 = "number" then .ok (.tup [.str "object", d0]) S else .no
  | _ => .no
theorem nq_step_word : (("step" : Str) == ("word" : Str)) = false := by decide
theorem nq_word_step : (("word" : Str) == ("step" : Str)) = false := by decide
theorem hq_law_outcome : ∀ (a dd : Addr) (e : Ex) (S : Store) (d : D) (S2 : Store), qf_law_outcome e S = .ok d S2 → ∃ env2, sg_law_outcome a dd e.cls ((List.replicate 5 none).set 2 (some (.err a dd (e.fs.map (·.1)) (e.fs.map (·.2))))) S = .ok (.nx env2) S2 ∧ env2[1]? = some (some d) := by
  rintro a dd ⟨cls, fs⟩ S d S2 h
  unfold qf_law_outcome at h
  split at h
  · rename_i n0 d0 n1 d1 he
    simp only at he
    subst he
    split at h
    · rename_i hc
      obtain ⟨hc, rfl, rfl⟩ := hc
      simp only at hc
      subst hc
      cases h
      simp [sg_law_outcome, bs_law_outcome, Fx.isE, Fx.fldE, Fx.seqS, Fx.ifS, Fx.ret, Fx.set, Fx.drop, Fx.asg, Fx.lft, Fx.bd, Fx.pur, Fx.opt, Fx.tst, Fx.asB, Fx.bin, Fx.getv, Fx.cns, Fx.cal, Fx.andV, Fx.orV, Fx.notV, Fx.andB, Fx.orB, Fx.notB, Fx.dsp, Fx.pass, Fx.mkL, Fx.mkN, Fx.mkO, Fx.mkT, Fx.met, Fx.objL, Fx.appD, Fx.putL, Fx.frzV, Fx.eqD, Fx.pyM, Fx.pyD, Fx.pyDs, Fx.ite_ap0, Fx.addD, Fx.catL, Fx.seqM, Fx.sL1, Fx.sL2, Fx.sL3, Fx.sL4, Fx.sL5, Fx.sLt, Fx.shp3, Fx.shp4, Fx.shp5, nq_step_word, nq_word_step, tabI_InvalidPaper, tabI_InvalidStep, tabI_InvalidText, tabI_PaperError, tabI_StoreError, tabI_TextError, tabI_UnfitExpression, tabI_UnknownObject, tabI_GoneCell_NothingToUndo_InvalidPace_InvalidCommand, tabI_ValueError, List.lookup, PyData.eqv, PyData.eqvAll]
    ·
      cases h
  · rename_i n0 d0 he
    simp only at he
    subst he
    split at h
    · rename_i hc
      obtain ⟨hc, rfl⟩ := hc
      simp only at hc
      subst hc
      cases h
      simp [sg_law_outcome, bs_law_outcome, Fx.isE, Fx.fldE, Fx.seqS, Fx.ifS, Fx.ret, Fx.set, Fx.drop, Fx.asg, Fx.lft, Fx.bd, Fx.pur, Fx.opt, Fx.tst, Fx.asB, Fx.bin, Fx.getv, Fx.cns, Fx.cal, Fx.andV, Fx.orV, Fx.notV, Fx.andB, Fx.orB, Fx.notB, Fx.dsp, Fx.pass, Fx.mkL, Fx.mkN, Fx.mkO, Fx.mkT, Fx.met, Fx.objL, Fx.appD, Fx.putL, Fx.frzV, Fx.eqD, Fx.pyM, Fx.pyD, Fx.pyDs, Fx.ite_ap0, Fx.addD, Fx.catL, Fx.seqM, Fx.sL1, Fx.sL2, Fx.sL3, Fx.sL4, Fx.sL5, Fx.sLt, Fx.shp3, Fx.shp4, Fx.shp5, nq_step_word, nq_word_step, tabI_InvalidPaper, tabI_InvalidStep, tabI_InvalidText, tabI_PaperError, tabI_StoreError, tabI_TextError, tabI_UnfitExpression, tabI_UnknownObject, tabI_GoneCell_NothingToUndo_InvalidPace_InvalidCommand, tabI_ValueError, List.lookup, PyData.eqv, PyData.eqvAll]
    ·
      cases h
  · cases h
def b_law_feed : Fx.Env → MS := (ret (dspD [.inr "cells", .inr "at", .inr "left", .inr "count"] (cns (cal (cns (slc (getv 0) (fun _ => pur none) (fun env => bd ((fun _ => pur (.int 63)) env) intOf)) (fun _ => pur [])) (listD mkL)) (cns (fun _ => pur (.int 0)) (cns (fun _ => pur (.int 0)) (cns (fun _ => pur (.int 0)) (fun _ => pur [])))))))
def g_law_feed : List D → M D := bodyD 1 1 b_law_feed
def b_law_document : Fx.Env → MS := (seqS (set 0 (dsp mkT (cns (dsp mkT (cns (fun _ => pur (.str "box")) (cns (dsp mkT (cns (dsp mkT (cns (fun _ => pur (.str "lid")) (cns (fun _ => pur (.str "lid")) (fun _ => pur [])))) (cns (dsp mkT (cns (fun _ => pur (.str "size")) (cns (dsp mkT (cns (fun _ => pur (.int 0)) (cns (fun _ => pur (.int 9)) (fun _ => pur [])))) (fun _ => pur [])))) (fun _ => pur [])))) (fun _ => pur [])))) (cns (dsp mkT (cns (fun _ => pur (.str "lid")) (cns (dsp mkT (cns (dsp mkT (cns (fun _ => pur (.str "of")) (cns (fun _ => pur (.str "box")) (fun _ => pur [])))) (cns (dsp mkT (cns (fun _ => pur (.str "w")) (cns (dsp mkT (cns (fun _ => pur (.int 0)) (cns (fun _ => pur (.int 5)) (fun _ => pur [])))) (fun _ => pur [])))) (fun _ => pur [])))) (fun _ => pur [])))) (fun _ => pur [])))))
  (seqS (set 1 (dsp mkT (cns (fun _ => pur (.str "*")) (cns (dsp mkT (cns (fun _ => pur (.str "get")) (cns (dsp mkT (cns (fun _ => pur (.str "size")) (fun _ => pur []))) (cns (fun _ => pur (.int 0)) (fun _ => pur []))))) (cns (dsp mkT (cns (fun _ => pur (.str "get")) (cns (dsp mkT (cns (fun _ => pur (.str "lid")) (cns (fun _ => pur (.str "w")) (fun _ => pur [])))) (cns (fun _ => pur (.int 1)) (fun _ => pur []))))) (fun _ => pur []))))))
  (seqS (set 2 (dsp mkT (cns (dsp mkT (cns (fun _ => pur (.str "box")) (cns (dsp mkT (cns (dsp mkT (cns (fun _ => pur (.str "area")) (cns (dsp mkT (cns (fun _ => pur (.int 0)) (cns (fun _ => pur (.int 50)) (fun _ => pur [])))) (fun _ => pur [])))) (cns (dsp mkT (cns (fun _ => pur (.str "lid")) (cns (fun _ => pur (.str "lid")) (fun _ => pur [])))) (fun _ => pur [])))) (cns (dsp mkT (cns (getv 1) (cns (dsp mkT (cns (fun _ => pur (.str "to")) (cns (dsp mkT (cns (fun _ => pur (.str "lid")) (fun _ => pur []))) (fun _ => pur [])))) (fun _ => pur [])))) (fun _ => pur []))))) (fun _ => pur []))))
  (ret (dsp mkT (cns (dsp mkT (cns (getv 0) (cns (fun _ => pur (.int 3)) (cns (dsp mkT (cns (dsp mkT (cns (fun _ => pur (.int 0)) (cns (fun _ => pur (.str "box")) (cns (dsp mkT (cns (fun _ => pur (.int 1)) (cns (fun _ => pur (.int 4)) (fun _ => pur [])))) (fun _ => pur []))))) (cns (dsp mkT (cns (fun _ => pur (.int 1)) (cns (fun _ => pur (.str "lid")) (cns (dsp mkT (cns (fun _ => pur (.int 0)) (cns (fun _ => pur (.int 5)) (fun _ => pur [])))) (fun _ => pur []))))) (cns (dsp mkT (cns (fun _ => pur (.int 2)) (cns (fun _ => pur (.str "box")) (cns (dsp mkT (cns (fun _ => pur .non) (cns (fun _ => pur (.int 9)) (fun _ => pur [])))) (fun _ => pur []))))) (fun _ => pur []))))) (fun _ => pur []))))) (cns (getv 2) (fun _ => pur []))))))))
def g_law_document : List D → M D := bodyD 3 0 b_law_document
def b_law_laps : Fx.Env → MS := (ret (iteV (tst (bin neD (getv 0) (dsp mkL (fun _ => pur [])))) (getv 1) (fun _ => pur (.int 1))))
def g_law_laps : List D → M D := bodyD 2 2 b_law_laps
def b_law_draw : Fx.Env → MS := (seqS (dput (getv 0) (fun _ => pur (.str "count")) (bin (addD mkL) (bin dgetD (getv 0) (fun _ => pur (.str "count"))) (fun _ => pur (.int 1))))
  (seqS (ifS (tst (bin eqD (bin dgetD (getv 0) (fun _ => pur (.str "cells"))) (dsp mkL (fun _ => pur [])))) (ret (bin modD (cal (cns (bin dgetD (getv 0) (fun _ => pur (.str "count"))) (fun _ => pur [])) intD) (getv 1))) pass)
  (seqS (ifS (tst (bin gtD (bin dgetD (getv 0) (fun _ => pur (.str "left"))) (fun _ => pur (.int 0)))) (seqS (set 2 (bin modD (cal (cns (bin dgetD (getv 0) (fun _ => pur (.str "left"))) (fun _ => pur [])) intD) (getv 1)))
  (seqS (dput (getv 0) (fun _ => pur (.str "left")) (bin fdivD (bin dgetD (getv 0) (fun _ => pur (.str "left"))) (getv 1)))
  (ret (getv 2)))) pass)
  (seqS (set 3 (bin dgetD (getv 0) (fun _ => pur (.str "at"))))
  (seqS (dput (getv 0) (fun _ => pur (.str "at")) (bin (addD mkL) (getv 3) (fun _ => pur (.int 1))))
  (seqS (set 4 (bin ixD (bin dgetD (getv 0) (fun _ => pur (.str "cells"))) (bin modD (cal (cns (getv 3) (fun _ => pur [])) intD) (cal (cns (bin dgetD (getv 0) (fun _ => pur (.str "cells"))) (fun _ => pur [])) lenD))))
  (seqS (ifS (andB (tst (bin geD (getv 4) (bin powD (fun _ => pur (.int 10)) (fun _ => pur (.int 18))))) (tst (bin ltD (getv 3) (cal (cns (bin dgetD (getv 0) (fun _ => pur (.str "cells"))) (fun _ => pur [])) lenD)))) (seqS (dput (getv 0) (fun _ => pur (.str "left")) (bin fdivD (getv 4) (getv 1)))
  (ret (bin modD (cal (cns (getv 4) (fun _ => pur [])) intD) (getv 1)))) pass)
  (seqS (set 5 (bin modD (cal (cns (bin (addD mkL) (bin (addD mkL) (bin modD (cal (cns (getv 4) (fun _ => pur [])) intD) (fun _ => pur (.int 1000001801))) (bin mulD (fun _ => pur (.int 96401)) (bin dgetD (getv 0) (fun _ => pur (.str "count"))))) (fun _ => pur (.int 631))) (fun _ => pur [])) intD) (fun _ => pur (.int 2147483563))))
  (seqS (set 5 (bin modD (cal (cns (bin (addD mkL) (bin (addD mkL) (bin powD (getv 5) (fun _ => pur (.int 3))) (bin mulD (fun _ => pur (.int 7400441)) (bin dgetD (getv 0) (fun _ => pur (.str "count"))))) (fun _ => pur (.int 347))) (fun _ => pur [])) intD) (fun _ => pur (.int 2147483497))))
  (ret (bin modD (cal (cns (bin fdivD (bin modD (cal (cns (bin (addD mkL) (bin powD (getv 5) (fun _ => pur (.int 3))) (bin mulD (fun _ => pur (.int 337)) (getv 5))) (fun _ => pur [])) intD) (fun _ => pur (.int 2147483489))) (fun _ => pur (.int 32))) (fun _ => pur [])) intD) (getv 1))))))))))))
def g_law_draw : List D → M D := bodyD 6 2 b_law_draw
def b_law_any : Fx.Env → MS := (ret (bin ixD (getv 1) (cal (cns (getv 0) (cns (cal (cns (getv 1) (fun _ => pur [])) lenD) (fun _ => pur []))) g_law_draw)))
def g_law_any : List D → M D := bodyD 2 2 b_law_any
def b_law_fitting : Fx.Env → MS := (seqS (ifS (tst (isi "tuple" (getv 1))) (ret (bin (addD mkL) (bin ixD (getv 1) (fun _ => pur (.int 0))) (cal (cns (getv 0) (cns (bin (addD mkL) (bin subD (bin ixD (getv 1) (fun _ => pur (.int 1))) (bin ixD (getv 1) (fun _ => pur (.int 0)))) (fun _ => pur (.int 1))) (fun _ => pur []))) g_law_draw))) pass)
  (ret (cal (cns (getv 0) (cns (bin (addD mkL) (dsp mkL (cns (fun _ => pur .non) (fun _ => pur []))) (cmp [3, 4] mkL (itf (getv 2)) (toTup (toCons (toN 3) (toCons (toN 4) toNil))) (tst (bin eqD (getv 4) (getv 1))) (getv 3))) (fun _ => pur []))) g_law_any)))
def g_law_fitting : List D → M D := bodyD 5 3 b_law_fitting
def b_law_values : Fx.Env → MS := (ret (cal (cns (cmp [3, 4] mkL (itf (getv 1)) (toTup (toCons (toN 3) (toCons (toN 4) toNil))) (fun _ => pur true) (cal (cns (getv 0) (cns (getv 4) (cns (getv 2) (fun _ => pur [])))) g_law_fitting)) (fun _ => pur [])) tupleD))
def g_law_values : List D → M D := bodyD 5 3 b_law_values
def b_law_house : Fx.Env → MS := (seqS (asg (dsp mkT (cns (cmp [5, 6] mkL (itf (getv 1)) (toTup (toCons (toN 5) (toCons (toN 6) toNil))) (fun _ => pur true) (getv 5)) (cns (cal (cns (getv 0) (cns (bin (addD mkL) (getv 2) (fun _ => pur (.int 1))) (fun _ => pur []))) g_law_draw) (fun _ => pur [])))) (toTup (toCons (toN 3) (toCons (toN 4) toNil))))
  (seqS (set 7 (cmp [8] mkL (itr1 (cns (getv 4) (fun _ => pur []))) (toN 8) (tst (bin gtD (cal (cns (getv 0) (cns (fun _ => pur (.int 4)) (fun _ => pur []))) g_law_draw) (fun _ => pur (.int 0)))) (dsp mkT (cns (getv 8) (cns (cal (cns (getv 0) (cns (getv 3) (fun _ => pur []))) g_law_any) (fun _ => pur []))))))
  (seqS (set 9 (cmp [8, 5] mkL (itf (getv 7)) (toTup (toCons (toN 8) (toCons (toN 5) toNil))) (fun _ => pur true) (dsp mkT (cns (getv 8) (cns (getv 5) (cns (cal (cns (getv 0) (cns (bin dgetD (cal (cns (getv 1) (fun _ => pur [])) dictD) (getv 5)) (cns (getv 7) (fun _ => pur [])))) g_law_values) (fun _ => pur [])))))))
  (ret (dsp mkT (cns (getv 1) (cns (getv 4) (cns (cal (cns (getv 9) (fun _ => pur [])) tupleD) (fun _ => pur [])))))))))
def g_law_house : List D → M D := bodyD 10 3 b_law_house
def b_law_lot : Fx.Env → MS := (seqS (set 2 (dsp mkN (fun _ => pur [])))
  (seqS (forS (itf (iteV (tst (bin gtD (cal (cns (getv 0) (cns (fun _ => pur (.int 8)) (fun _ => pur []))) g_law_draw) (fun _ => pur (.int 0)))) (dsp mkT (cns (fun _ => pur (.str "k")) (cns (fun _ => pur (.str "n")) (cns (fun _ => pur (.str "to")) (cns (fun _ => pur (.str "w")) (fun _ => pur [])))))) (dsp mkT (fun _ => pur [])))) (toN 3) (seqS (set 4 (cal (cns (getv 0) (cns (fun _ => pur (.int 7)) (fun _ => pur []))) g_law_draw))
  (ifS (tst (bin ltD (getv 4) (fun _ => pur (.int 3)))) (drop (met (getv 2) (cns (dsp mkT (cns (getv 3) (cns (cal (cns (getv 0) (cns (dsp mkL (cns (dsp mkT (cns (fun _ => pur (.int 0)) (cns (fun _ => pur (.int 3)) (fun _ => pur [])))) (cns (dsp mkT (cns (fun _ => pur (.int 0)) (cns (fun _ => pur (.int 9)) (fun _ => pur [])))) (cns (dsp mkT (cns (un negD (fun _ => pur (.int 2))) (cns (fun _ => pur (.int 2)) (fun _ => pur [])))) (cns (dsp mkT (cns (fun _ => pur (.int 1)) (cns (fun _ => pur (.int 1)) (fun _ => pur [])))) (cns (dsp mkT (cns (un negD (fun _ => pur (.int 999))) (cns (fun _ => pur (.int 1000)) (fun _ => pur [])))) (fun _ => pur []))))))) (fun _ => pur []))) g_law_any) (fun _ => pur [])))) (fun _ => pur [])) appD)) (ifS (tst (bin ltD (getv 4) (fun _ => pur (.int 5)))) (drop (met (getv 2) (cns (dsp mkT (cns (getv 3) (cns (cal (cns (getv 0) (cns (getv 1) (fun _ => pur []))) g_law_any) (fun _ => pur [])))) (fun _ => pur [])) appD)) pass))))
  (frzV 2 (ret (cal (cns (getv 2) (fun _ => pur [])) tupleD)))))
def g_law_lot : List D → M D := bodyD 5 2 b_law_lot
def b_law_classes : Fx.Env → MS := (seqS (set 1 (slc (dsp mkL (cns (fun _ => pur (.str "a")) (cns (fun _ => pur (.str "get")) (cns (fun _ => pur (.str "lid")) (fun _ => pur []))))) (fun _ => pur none) (fun env => bd ((bin (addD mkL) (fun _ => pur (.int 1)) (cal (cns (getv 0) (cns (fun _ => pur (.int 3)) (fun _ => pur []))) g_law_draw)) env) intOf)))
  (ret (cal (cns (cmp [2] mkL (itf (getv 1)) (toN 2) (fun _ => pur true) (dsp mkT (cns (getv 2) (cns (cal (cns (getv 0) (cns (getv 1) (fun _ => pur []))) g_law_lot) (fun _ => pur []))))) (fun _ => pur [])) tupleD)))
def g_law_classes : List D → M D := bodyD 3 1 b_law_classes
def b_is_integer : Fx.Env → MS := (ret (andV (isi "int" (getv 0)) (notV (isi "bool" (getv 0)))))
def g_is_integer : List D → M D := bodyD 1 1 b_is_integer
def b_classes_of : Fx.Env → MS := (ret (cmd [1, 2, 3] (itf (bin ixD (getv 0) (fun _ => pur (.int 2)))) (toTup (toCons (toN 1) (toCons (toN 2) (toCons (toN 3) toNil)))) (fun _ => pur true) (getv 1) (getv 2)))
def g_classes_of : List D → M D := bodyD 4 1 b_classes_of
def b_check_number : Fx.Env → MS := (ifS (orB (notB (tst (cal (cns (getv 1) (fun _ => pur [])) g_is_integer))) (tst (bin (dinD true) (getv 1) (cal (cns (getv 0) (fun _ => pur [])) g_classes_of)))) (rz1 "UnknownObject" "number" (cns (getv 1) (fun _ => pur []))) pass)
def g_check_number : List D → M D := bodyD 2 2 b_check_number
def b_is_link : Fx.Env → MS := (ret (isi "str" (getv 0)))
def g_is_link : List D → M D := bodyD 1 1 b_is_link
def b_unlinked : Fx.Env → MS := (ret (cal (cns (cmp [5, 3, 4] mkL (itz (cns (getv 0) (cns (getv 1) (fun _ => pur [])))) (toTup (toCons (toTup (toCons (toN 3) (toCons (toN 4) toNil))) (toCons (toN 5) toNil))) (fun _ => pur true) (iteV (andB (tst (cal (cns (getv 4) (fun _ => pur [])) g_is_link)) (tst (bin eqD (getv 5) (getv 2)))) (fun _ => pur .non) (getv 5))) (fun _ => pur [])) tupleD))
def g_unlinked : List D → M D := bodyD 6 3 b_unlinked
def b_dropped : Fx.Env → MS := (seqS (drop (cal (cns (getv 0) (cns (getv 1) (fun _ => pur []))) g_check_number))
  (seqS (asg (getv 0) (toTup (toCons (toN 2) (toCons (toN 3) (toCons (toN 4) toNil)))))
  (seqS (set 5 (cmd [6, 7] (itf (getv 2)) (toTup (toCons (toN 6) (toCons (toN 7) toNil))) (fun _ => pur true) (getv 6) (getv 7)))
  (seqS (set 8 (cmp [9, 6, 10] mkL (itf (getv 4)) (toTup (toCons (toN 9) (toCons (toN 6) (toCons (toN 10) toNil)))) (tst (bin neD (getv 9) (getv 1))) (dsp mkT (cns (getv 9) (cns (getv 6) (cns (cal (cns (bin dgetD (getv 5) (getv 6)) (cns (getv 10) (cns (getv 1) (fun _ => pur [])))) g_unlinked) (fun _ => pur [])))))))
  (ret (dsp mkT (cns (getv 2) (cns (getv 3) (cns (cal (cns (getv 8) (fun _ => pur [])) tupleD) (fun _ => pur []))))))))))
def g_dropped : List D → M D := bodyD 11 2 b_dropped
def b_law_some_item : Fx.Env → MS := (seqS (set 2 (cmp [3, 4, 5] mkL (itf (bin ixD (getv 1) (fun _ => pur (.int 2)))) (toTup (toCons (toN 3) (toCons (toN 4) (toCons (toN 5) toNil)))) (fun _ => pur true) (getv 3)))
  (ret (cal (cns (getv 0) (cns (bin (addD mkL) (bin (addD mkL) (dsp mkL (cns (fun _ => pur (.int 0)) (cns (fun _ => pur (.int 1)) (cns (fun _ => pur (.int 2)) (cns (fun _ => pur (.int 3)) (cns (fun _ => pur (.int 9)) (cns (un negD (fun _ => pur (.int 1))) (cns (fun _ => pur .non) (cns (fun _ => pur .non) (cns (fun _ => pur (.bl true)) (cns (fun _ => pur (.str "a")) (cns (bin ixD (getv 1) (fun _ => pur (.int 1))) (cns (bin powD (fun _ => pur (.int 10)) (fun _ => pur (.int 30))) (fun _ => pur [])))))))))))))) (getv 2)) (getv 2)) (fun _ => pur []))) g_law_any)))
def g_law_some_item : List D → M D := bodyD 6 2 b_law_some_item
def b_law_some_lots : Fx.Env → MS := (seqS (set 3 (cmp [4, 5, 6] mkL (itf (bin ixD (getv 1) (fun _ => pur (.int 2)))) (toTup (toCons (toN 4) (toCons (toN 5) (toCons (toN 6) toNil)))) (fun _ => pur true) (dsp mkT (cns (getv 4) (cns (getv 5) (fun _ => pur []))))))
  (seqS (set 6 (cal (cns (getv 0) (cns (get2 (cal (cns (bin ixD (getv 1) (fun _ => pur (.int 0))) (fun _ => pur [])) dictD) (getv 2) (dsp mkT (fun _ => pur []))) (cns (getv 3) (fun _ => pur [])))) g_law_values))
  (seqS (set 7 (cal (cns (getv 0) (cns (fun _ => pur (.int 6)) (fun _ => pur []))) g_law_draw))
  (seqS (ifS (orB (tst (bin ltD (getv 7) (fun _ => pur (.int 3)))) (tst (bin eqD (getv 6) (dsp mkT (fun _ => pur []))))) (ret (iteV (tst (bin eqD (getv 7) (fun _ => pur (.int 5)))) (bin (addD mkL) (getv 6) (dsp mkT (cns (fun _ => pur (.int 0)) (fun _ => pur [])))) (getv 6))) pass)
  (seqS (set 8 (cal (cns (getv 0) (cns (cal (cns (getv 6) (fun _ => pur [])) lenD) (fun _ => pur []))) g_law_draw))
  (seqS (set 9 (dsp mkN (cns (slc (getv 6) (fun _ => pur none) (fun env => bd ((getv 8) env) intOf)) (cns (bin (addD mkL) (getv 6) (slc (getv 6) (fun env => bd ((un negD (fun _ => pur (.int 1))) env) intOf) (fun _ => pur none))) (fun _ => pur [])))))
  (seqS (drop (met (getv 9) (cns (bin (addD mkL) (bin (addD mkL) (slc (getv 6) (fun _ => pur none) (fun env => bd ((getv 8) env) intOf)) (dsp mkT (cns (cal (cns (getv 0) (cns (getv 1) (fun _ => pur []))) g_law_some_item) (fun _ => pur [])))) (slc (getv 6) (fun env => bd ((bin (addD mkL) (getv 8) (fun _ => pur (.int 1))) env) intOf) (fun _ => pur none))) (fun _ => pur [])) appD))
  (frzV 9 (ret (bin ixD (getv 9) (bin subD (getv 7) (fun _ => pur (.int 3)))))))))))))
def g_law_some_lots : List D → M D := bodyD 10 3 b_law_some_lots
def b_law_is_integer : Fx.Env → MS := (ret (andV (isi "int" (getv 0)) (notV (isi "bool" (getv 0)))))
def g_law_is_integer : List D → M D := bodyD 1 1 b_law_is_integer
def b_law_suits : Fx.Env → MS := (seqS (ifS (tst (isi "tuple" (getv 1))) (ret (andV (cal (cns (getv 2) (fun _ => pur [])) g_law_is_integer) (chn leD leD (bin ixD (getv 1) (fun _ => pur (.int 0))) (getv 2) (bin ixD (getv 1) (fun _ => pur (.int 1)))))) pass)
  (seqS (set 3 (cmp [4, 5, 6] mkL (itf (bin ixD (getv 0) (fun _ => pur (.int 2)))) (toTup (toCons (toN 4) (toCons (toN 5) (toCons (toN 6) toNil)))) (fun _ => pur true) (dsp mkT (cns (getv 4) (cns (getv 5) (fun _ => pur []))))))
  (ret (orV (bin isD (getv 2) (fun _ => pur .non)) (andV (cal (cns (getv 2) (fun _ => pur [])) g_law_is_integer) (bin (indD false) (dsp mkT (cns (getv 2) (cns (getv 1) (fun _ => pur [])))) (getv 3)))))))
def g_law_suits : List D → M D := bodyD 7 3 b_law_suits
def b_law_made_due : Fx.Env → MS := (seqS (ifS (tst (bin (inD true) (cal (cns (getv 1) (fun _ => pur [])) reprD) (cmp [3, 4] mkL (itf (bin ixD (getv 0) (fun _ => pur (.int 0)))) (toTup (toCons (toN 3) (toCons (toN 4) toNil))) (fun _ => pur true) (cal (cns (getv 3) (fun _ => pur [])) reprD)))) (ret (dsp mkT (cns (fun _ => pur (.str "step")) (cns (dsp mkT (cns (fun _ => pur (.str "make")) (cns (getv 1) (cns (getv 2) (fun _ => pur []))))) (cns (fun _ => pur (.str "class")) (fun _ => pur [])))))) pass)
  (seqS (set 4 (bin dgetD (cal (cns (bin ixD (getv 0) (fun _ => pur (.int 0))) (fun _ => pur [])) dictD) (getv 1)))
  (seqS (set 5 (cmp [6] mkL (itr1 (cns (cal (cns (cal (cns (getv 4) (fun _ => pur [])) lenD) (cns (cal (cns (getv 2) (fun _ => pur [])) lenD) (fun _ => pur []))) minD) (fun _ => pur []))) (toN 6) (notB (tst (cal (cns (getv 0) (cns (bin ixD (bin ixD (getv 4) (getv 6)) (fun _ => pur (.int 1))) (cns (bin ixD (getv 2) (getv 6)) (fun _ => pur [])))) g_law_suits))) (getv 6)))
  (seqS (ifS (orB (tst (bin neD (cal (cns (getv 4) (fun _ => pur [])) lenD) (cal (cns (getv 2) (fun _ => pur [])) lenD))) (tst (bin neD (getv 5) (dsp mkL (fun _ => pur []))))) (ret (dsp mkT (cns (fun _ => pur (.str "step")) (cns (dsp mkT (cns (fun _ => pur (.str "make")) (cns (getv 1) (cns (getv 2) (fun _ => pur []))))) (cns (fun _ => pur (.str "values")) (fun _ => pur [])))))) pass)
  (ret (dsp mkT (cns (fun _ => pur (.str "told")) (cns (dsp mkT (cns (bin ixD (getv 0) (fun _ => pur (.int 0))) (cns (bin (addD mkL) (bin ixD (getv 0) (fun _ => pur (.int 1))) (fun _ => pur (.int 1))) (cns (bin (addD mkL) (bin ixD (getv 0) (fun _ => pur (.int 2))) (dsp mkT (cns (dsp mkT (cns (bin ixD (getv 0) (fun _ => pur (.int 1))) (cns (getv 1) (cns (getv 2) (fun _ => pur []))))) (fun _ => pur [])))) (fun _ => pur []))))) (fun _ => pur [])))))))))
def g_law_made_due : List D → M D := bodyD 7 3 b_law_made_due
def b_form_of : Fx.Env → MS := (seqS (forS (itf (getv 0)) (toTup (toCons (toN 2) (toCons (toN 3) toNil))) (ifS (tst (bin eqD (getv 2) (getv 1))) (ret (getv 3)) pass))
  (ret (fun _ => pur .non)))
def g_form_of : List D → M D := bodyD 4 2 b_form_of
def b_in_range : Fx.Env → MS := (ret (andV (cal (cns (getv 1) (fun _ => pur [])) g_is_integer) (chn leD leD (bin ixD (getv 0) (fun _ => pur (.int 0))) (getv 1) (bin ixD (getv 0) (fun _ => pur (.int 1))))))
def g_in_range : List D → M D := bodyD 2 2 b_in_range
def b_is_number : Fx.Env → MS := (ret (andV (cal (cns (getv 0) (fun _ => pur [])) g_is_integer) (bin geD (getv 0) (fun _ => pur (.int 0)))))
def g_is_number : List D → M D := bodyD 1 1 b_is_number
def b_suits : Fx.Env → MS := (seqS (ifS (notB (tst (cal (cns (getv 0) (fun _ => pur [])) g_is_link))) (ret (cal (cns (getv 0) (cns (getv 1) (fun _ => pur []))) g_in_range)) pass)
  (ret (orV (bin isD (getv 1) (fun _ => pur .non)) (andV (cal (cns (getv 1) (fun _ => pur [])) g_is_number) (bin eqD (get1 (getv 2) (getv 1)) (getv 0))))))
def g_suits : List D → M D := bodyD 3 3 b_suits
def b_all_suit : Fx.Env → MS := (seqS (ifS (tst (bin neD (cal (cns (getv 1) (fun _ => pur [])) lenD) (cal (cns (getv 0) (fun _ => pur [])) lenD))) (ret (fun _ => pur (.bl false))) pass)
  (ret (cal (cns (cmp [5, 3, 4] mkL (itz (cns (getv 0) (cns (getv 1) (fun _ => pur [])))) (toTup (toCons (toTup (toCons (toN 3) (toCons (toN 4) toNil))) (toCons (toN 5) toNil))) (fun _ => pur true) (cal (cns (getv 4) (cns (getv 5) (cns (getv 2) (fun _ => pur [])))) g_suits)) (fun _ => pur [])) allD)))
def g_all_suit : List D → M D := bodyD 6 3 b_all_suit
def b_made_by : Fx.Env → MS := (seqS (asg (getv 0) (toTup (toCons (toN 2) (toCons (toN 3) (toCons (toN 4) toNil)))))
  (seqS (asg (getv 1) (toTup (toCons (toN 5) (toCons (toN 6) (toCons (toN 7) toNil)))))
  (seqS (set 8 (cal (cns (getv 2) (cns (getv 6) (fun _ => pur []))) g_form_of))
  (seqS (ifS (tst (bin isD (getv 8) (fun _ => pur .non))) (rz2 "InvalidStep" "step" "word" (cns (getv 1) (cns (fun _ => pur (.str "class")) (fun _ => pur [])))) pass)
  (seqS (ifS (notB (tst (cal (cns (getv 8) (cns (getv 7) (cns (cal (cns (getv 0) (fun _ => pur [])) g_classes_of) (fun _ => pur [])))) g_all_suit))) (rz2 "InvalidStep" "step" "word" (cns (getv 1) (cns (fun _ => pur (.str "values")) (fun _ => pur [])))) pass)
  (ret (dsp mkT (cns (getv 2) (cns (bin (addD mkL) (getv 3) (fun _ => pur (.int 1))) (cns (dsp mkT (stc (getv 4) (cns (dsp mkT (cns (getv 3) (cns (getv 6) (cns (getv 7) (fun _ => pur []))))) (fun _ => pur [])))) (fun _ => pur [])))))))))))
def g_made_by : List D → M D := bodyD 9 2 b_made_by
def b_made : Fx.Env → MS := (ret (cal (cns (getv 0) (cns (dsp mkT (cns (fun _ => pur (.str "make")) (cns (getv 1) (cns (getv 2) (fun _ => pur []))))) (fun _ => pur []))) g_made_by))
def g_made : List D → M D := bodyD 3 3 b_made
def b_law_make : Fx.Env → MS := (seqS (ifS (tst (bin eqD (getv 2) (dsp mkT (fun _ => pur [])))) (ret (cal (cns (getv 0) (cns (getv 1) (fun _ => pur []))) (starG 2 g_made))) pass)
  (seqS (ifS (tst (bin eqD (cal (cns (getv 2) (fun _ => pur [])) lenD) (fun _ => pur (.int 1)))) (ret (cal (cns (getv 0) (cns (getv 1) (cns (bin ixD (getv 2) (fun _ => pur (.int 0))) (fun _ => pur [])))) (starG 2 g_made))) pass)
  (seqS (ifS (tst (bin eqD (cal (cns (getv 2) (fun _ => pur [])) lenD) (fun _ => pur (.int 2)))) (ret (cal (cns (getv 0) (cns (getv 1) (cns (bin ixD (getv 2) (fun _ => pur (.int 0))) (cns (bin ixD (getv 2) (fun _ => pur (.int 1))) (fun _ => pur []))))) (starG 2 g_made))) pass)
  (seqS (ifS (tst (bin eqD (cal (cns (getv 2) (fun _ => pur [])) lenD) (fun _ => pur (.int 3)))) (ret (cal (cns (getv 0) (cns (getv 1) (cns (bin ixD (getv 2) (fun _ => pur (.int 0))) (cns (bin ixD (getv 2) (fun _ => pur (.int 1))) (cns (bin ixD (getv 2) (fun _ => pur (.int 2))) (fun _ => pur [])))))) (starG 2 g_made))) pass)
  (seqS (ifS (tst (bin eqD (cal (cns (getv 2) (fun _ => pur [])) lenD) (fun _ => pur (.int 4)))) (ret (cal (cns (getv 0) (cns (getv 1) (cns (bin ixD (getv 2) (fun _ => pur (.int 0))) (cns (bin ixD (getv 2) (fun _ => pur (.int 1))) (cns (bin ixD (getv 2) (fun _ => pur (.int 2))) (cns (bin ixD (getv 2) (fun _ => pur (.int 3))) (fun _ => pur []))))))) (starG 2 g_made))) pass)
  (ret (cal (cns (getv 0) (cns (getv 1) (cns (bin ixD (getv 2) (fun _ => pur (.int 0))) (cns (bin ixD (getv 2) (fun _ => pur (.int 1))) (cns (bin ixD (getv 2) (fun _ => pur (.int 2))) (cns (bin ixD (getv 2) (fun _ => pur (.int 3))) (cns (bin ixD (getv 2) (fun _ => pur (.int 4))) (fun _ => pur [])))))))) (starG 2 g_made))))))))
def g_law_make : List D → M D := bodyD 3 3 b_law_make
def b_law_making_right : Fx.Env → MS := (seqS (set 2 (cal (cns (getv 0) (cns (bin (addD mkL) (bin mulD (cmp [3, 4] mkL (itf (bin ixD (getv 1) (fun _ => pur (.int 0)))) (toTup (toCons (toN 3) (toCons (toN 4) toNil))) (fun _ => pur true) (getv 3)) (fun _ => pur (.int 2))) (dsp mkL (cns (fun _ => pur (.str "zz")) (cns (fun _ => pur (.str "")) (cns (fun _ => pur .non) (cns (fun _ => pur (.int 0)) (fun _ => pur []))))))) (fun _ => pur []))) g_law_any))
  (seqS (set 5 (cal (cns (getv 0) (cns (getv 1) (cns (iteV (tst (isi "str" (getv 2))) (getv 2) (fun _ => pur (.str "zz"))) (fun _ => pur [])))) g_law_some_lots))
  (ret (bin eqD (cal (cns (fun env => heardM "told" tabs_LateError qf_law_outcome ((cal (cns (getv 1) (cns (getv 2) (cns (getv 5) (fun _ => pur [])))) g_law_make) env)) (fun _ => pur [])) reprD) (cal (cns (cal (cns (getv 1) (cns (getv 2) (cns (getv 5) (fun _ => pur [])))) g_law_made_due) (fun _ => pur [])) reprD)))))
def g_law_making_right : List D → M D := bodyD 6 2 b_law_making_right
def b_law_some_number : Fx.Env → MS := (seqS (set 2 (cmp [3, 4, 5] mkL (itf (bin ixD (getv 1) (fun _ => pur (.int 2)))) (toTup (toCons (toN 3) (toCons (toN 4) (toCons (toN 5) toNil)))) (fun _ => pur true) (getv 3)))
  (ret (cal (cns (getv 0) (cns (bin (addD mkL) (bin (addD mkL) (getv 2) (getv 2)) (dsp mkL (cns (bin ixD (getv 1) (fun _ => pur (.int 1))) (cns (un negD (fun _ => pur (.int 1))) (cns (fun _ => pur .non) (cns (fun _ => pur (.bl true)) (cns (fun _ => pur (.str "a")) (cns (dsp mkT (cns (fun _ => pur (.int 0)) (fun _ => pur []))) (fun _ => pur []))))))))) (fun _ => pur []))) g_law_any)))
def g_law_some_number : List D → M D := bodyD 6 2 b_law_some_number
def b_law_is_member : Fx.Env → MS := (ret (bin (inD false) (cal (cns (getv 1) (fun _ => pur [])) reprD) (cmp [2, 3, 4] mkL (itf (bin ixD (getv 0) (fun _ => pur (.int 2)))) (toTup (toCons (toN 2) (toCons (toN 3) (toCons (toN 4) toNil)))) (fun _ => pur true) (cal (cns (getv 2) (fun _ => pur [])) reprD))))
def g_law_is_member : List D → M D := bodyD 5 2 b_law_is_member
def b_law_some_label : Fx.Env → MS := (seqS (set 3 (cmp [4, 5, 6] mkL (itf (bin ixD (getv 1) (fun _ => pur (.int 2)))) (toTup (toCons (toN 4) (toCons (toN 5) (toCons (toN 6) toNil)))) (andB (tst (cal (cns (getv 1) (cns (getv 2) (fun _ => pur []))) g_law_is_member)) (tst (bin eqD (getv 4) (getv 2)))) (getv 5)))
  (seqS (set 5 (iteV (tst (bin neD (getv 3) (dsp mkL (fun _ => pur [])))) (cmp [7, 8] mkL (itf (bin dgetD (cal (cns (bin ixD (getv 1) (fun _ => pur (.int 0))) (fun _ => pur [])) dictD) (bin ixD (getv 3) (fun _ => pur (.int 0))))) (toTup (toCons (toN 7) (toCons (toN 8) toNil))) (fun _ => pur true) (getv 7)) (dsp mkL (cns (fun _ => pur (.str "k")) (fun _ => pur [])))))
  (ret (cal (cns (getv 0) (cns (bin (addD mkL) (bin (addD mkL) (getv 5) (getv 5)) (dsp mkL (cns (fun _ => pur (.str "z")) (cns (fun _ => pur (.str "")) (cns (fun _ => pur .non) (cns (fun _ => pur (.int 0)) (cns (dsp mkT (cns (fun _ => pur (.str "k")) (fun _ => pur []))) (fun _ => pur [])))))))) (fun _ => pur []))) g_law_any))))
def g_law_some_label : List D → M D := bodyD 9 3 b_law_some_label
def b_law_written_due : Fx.Env → MS := (seqS (ifS (notB (tst (cal (cns (getv 0) (cns (getv 1) (fun _ => pur []))) g_law_is_member))) (ret (dsp mkT (cns (fun _ => pur (.str "object")) (cns (getv 1) (fun _ => pur []))))) pass)
  (seqS (set 4 (bin ixD (cmp [5, 6, 7] mkL (itf (bin ixD (getv 0) (fun _ => pur (.int 2)))) (toTup (toCons (toN 5) (toCons (toN 6) (toCons (toN 7) toNil)))) (tst (bin eqD (getv 5) (getv 1))) (getv 6)) (fun _ => pur (.int 0))))
  (seqS (set 8 (cmp [9, 10] mkL (itf (bin dgetD (cal (cns (bin ixD (getv 0) (fun _ => pur (.int 0))) (fun _ => pur [])) dictD) (getv 4))) (toTup (toCons (toN 9) (toCons (toN 10) toNil))) (fun _ => pur true) (getv 9)))
  (seqS (ifS (tst (bin (inD true) (cal (cns (getv 2) (fun _ => pur [])) reprD) (cmp [9] mkL (itf (getv 8)) (toN 9) (fun _ => pur true) (cal (cns (getv 9) (fun _ => pur [])) reprD)))) (ret (dsp mkT (cns (fun _ => pur (.str "step")) (cns (dsp mkT (cns (fun _ => pur (.str "write")) (cns (getv 1) (cns (getv 2) (cns (getv 3) (fun _ => pur [])))))) (cns (fun _ => pur (.str "field")) (fun _ => pur [])))))) pass)
  (seqS (par 11 12 (cns (idxE (getv 8) (cns (getv 2) (fun _ => pur []))) (cns (dsp mkN (fun _ => pur [])) (fun _ => pur []))))
  (seqS (ifS (notB (tst (cal (cns (getv 0) (cns (bin ixD (bin ixD (bin dgetD (cal (cns (bin ixD (getv 0) (fun _ => pur (.int 0))) (fun _ => pur [])) dictD) (getv 4)) (getv 11)) (fun _ => pur (.int 1))) (cns (getv 3) (fun _ => pur [])))) g_law_suits))) (ret (dsp mkT (cns (fun _ => pur (.str "step")) (cns (dsp mkT (cns (fun _ => pur (.str "write")) (cns (getv 1) (cns (getv 2) (cns (getv 3) (fun _ => pur [])))))) (cns (fun _ => pur (.str "value")) (fun _ => pur [])))))) pass)
  (seqS (forS (itf (bin ixD (getv 0) (fun _ => pur (.int 2)))) (toTup (toCons (toN 5) (toCons (toN 6) (toCons (toN 7) toNil)))) (seqS (set 13 (bin (addD mkL) (bin (addD mkL) (slc (getv 7) (fun _ => pur none) (fun env => bd ((getv 11) env) intOf)) (dsp mkT (cns (getv 3) (fun _ => pur [])))) (slc (getv 7) (fun env => bd ((bin (addD mkL) (getv 11) (fun _ => pur (.int 1))) env) intOf) (fun _ => pur none))))
  (drop (met (getv 12) (cns (dsp mkT (cns (getv 5) (cns (getv 6) (cns (iteV (tst (bin eqD (getv 5) (getv 1))) (getv 13) (getv 7)) (fun _ => pur []))))) (fun _ => pur [])) appD))))
  (frzV 12 (ret (dsp mkT (cns (fun _ => pur (.str "told")) (cns (dsp mkT (cns (bin ixD (getv 0) (fun _ => pur (.int 0))) (cns (bin ixD (getv 0) (fun _ => pur (.int 1))) (cns (cal (cns (getv 12) (fun _ => pur [])) tupleD) (fun _ => pur []))))) (fun _ => pur [])))))))))))))
def g_law_written_due : List D → M D := bodyD 14 4 b_law_written_due
def b_law_dropped_due : Fx.Env → MS := (seqS (ifS (notB (tst (cal (cns (getv 0) (cns (getv 1) (fun _ => pur []))) g_law_is_member))) (ret (dsp mkT (cns (fun _ => pur (.str "object")) (cns (getv 1) (fun _ => pur []))))) pass)
  (seqS (set 2 (dsp mkN (fun _ => pur [])))
  (seqS (forS (itf (bin ixD (getv 0) (fun _ => pur (.int 2)))) (toTup (toCons (toN 3) (toCons (toN 4) (toCons (toN 5) toNil)))) (seqS (set 6 (dsp mkN (fun _ => pur [])))
  (seqS (forS (itz (cns (bin dgetD (cal (cns (bin ixD (getv 0) (fun _ => pur (.int 0))) (fun _ => pur [])) dictD) (getv 4)) (cns (getv 5) (fun _ => pur [])))) (toTup (toCons (toTup (toCons (toN 7) (toCons (toN 8) toNil))) (toCons (toN 9) toNil))) (drop (met (getv 6) (cns (iteV (andB (tst (isi "str" (getv 8))) (tst (bin eqD (getv 9) (getv 1)))) (fun _ => pur .non) (getv 9)) (fun _ => pur [])) appD)))
  (frzV 6 (ifS (tst (bin neD (getv 3) (getv 1))) (drop (met (getv 2) (cns (dsp mkT (cns (getv 3) (cns (getv 4) (cns (cal (cns (getv 6) (fun _ => pur [])) tupleD) (fun _ => pur []))))) (fun _ => pur [])) appD)) pass)))))
  (frzV 2 (ret (dsp mkT (cns (fun _ => pur (.str "told")) (cns (dsp mkT (cns (bin ixD (getv 0) (fun _ => pur (.int 0))) (cns (bin ixD (getv 0) (fun _ => pur (.int 1))) (cns (cal (cns (getv 2) (fun _ => pur [])) tupleD) (fun _ => pur []))))) (fun _ => pur [])))))))))
def g_law_dropped_due : List D → M D := bodyD 10 2 b_law_dropped_due
def b_place_of : Fx.Env → MS := (seqS (forS (itEn (cns (getv 0) (fun _ => pur []))) (toTup (toCons (toN 2) (toCons (toTup (toCons (toN 3) (toCons (toN 4) toNil))) toNil))) (ifS (tst (bin eqD (getv 3) (getv 1))) (ret (getv 2)) pass))
  (ret (fun _ => pur .non)))
def g_place_of : List D → M D := bodyD 5 2 b_place_of
def b_with_value : Fx.Env → MS := (seqS (asg (getv 0) (toTup (toCons (toN 3) (toCons (toN 4) (toCons (toN 5) toNil)))))
  (ret (dsp mkT (cns (getv 3) (cns (getv 4) (cns (bin (addD mkL) (bin (addD mkL) (slc (getv 5) (fun _ => pur none) (fun env => bd ((getv 1) env) intOf)) (dsp mkT (cns (getv 2) (fun _ => pur [])))) (slc (getv 5) (fun env => bd ((bin (addD mkL) (getv 1) (fun _ => pur (.int 1))) env) intOf) (fun _ => pur none))) (fun _ => pur [])))))))
def g_with_value : List D → M D := bodyD 6 3 b_with_value
def b_written_by : Fx.Env → MS := (seqS (asg (getv 1) (toTup (toCons (toN 2) (toCons (toN 3) (toCons (toN 4) (toCons (toN 5) toNil))))))
  (seqS (drop (cal (cns (getv 0) (cns (getv 3) (fun _ => pur []))) g_check_number))
  (seqS (asg (getv 0) (toTup (toCons (toN 6) (toCons (toN 7) (toCons (toN 8) toNil)))))
  (seqS (set 9 (cal (cns (getv 0) (fun _ => pur [])) g_classes_of))
  (seqS (set 10 (cal (cns (getv 6) (cns (bin dgetD (getv 9) (getv 3)) (fun _ => pur []))) g_form_of))
  (seqS (set 11 (cal (cns (getv 10) (cns (getv 4) (fun _ => pur []))) g_place_of))
  (seqS (ifS (tst (bin isD (getv 11) (fun _ => pur .non))) (rz2 "InvalidStep" "step" "word" (cns (getv 1) (cns (fun _ => pur (.str "field")) (fun _ => pur [])))) pass)
  (seqS (ifS (notB (tst (cal (cns (bin ixD (bin ixD (getv 10) (getv 11)) (fun _ => pur (.int 1))) (cns (getv 5) (cns (getv 9) (fun _ => pur [])))) g_suits))) (rz2 "InvalidStep" "step" "word" (cns (getv 1) (cns (fun _ => pur (.str "value")) (fun _ => pur [])))) pass)
  (seqS (set 12 (cmp [13] mkL (itf (getv 8)) (toN 13) (fun _ => pur true) (iteV (tst (bin eqD (bin ixD (getv 13) (fun _ => pur (.int 0))) (getv 3))) (cal (cns (getv 13) (cns (getv 11) (cns (getv 5) (fun _ => pur [])))) g_with_value) (getv 13))))
  (ret (dsp mkT (cns (getv 6) (cns (getv 7) (cns (cal (cns (getv 12) (fun _ => pur [])) tupleD) (fun _ => pur [])))))))))))))))
def g_written_by : List D → M D := bodyD 14 2 b_written_by
def b_written : Fx.Env → MS := (ret (cal (cns (getv 0) (cns (dsp mkT (cns (fun _ => pur (.str "write")) (cns (getv 1) (cns (getv 2) (cns (getv 3) (fun _ => pur [])))))) (fun _ => pur []))) g_written_by))
def g_written : List D → M D := bodyD 4 4 b_written
def b_law_others_right : Fx.Env → MS := (seqS (set 2 (cal (cns (getv 0) (cns (getv 1) (fun _ => pur []))) g_law_some_number))
  (seqS (asg (dsp mkT (cns (cal (cns (getv 0) (cns (getv 1) (cns (getv 2) (fun _ => pur [])))) g_law_some_label) (cns (cal (cns (getv 0) (cns (getv 1) (fun _ => pur []))) g_law_some_item) (fun _ => pur [])))) (toTup (toCons (toN 3) (toCons (toN 4) toNil))))
  (seqS (set 5 (cal (cns (cal (cns (getv 1) (cns (getv 2) (cns (getv 3) (cns (getv 4) (fun _ => pur []))))) g_law_written_due) (fun _ => pur [])) reprD))
  (seqS (set 6 (dsp mkN (cns (cal (cns (fun env => heardM "told" tabs_LateError qf_law_outcome ((cal (cns (getv 1) (cns (getv 2) (cns (getv 3) (cns (getv 4) (fun _ => pur []))))) g_written) env)) (fun _ => pur [])) reprD) (fun _ => pur []))))
  (seqS (drop (met (getv 6) (cns (cal (cns (fun env => heardM "told" tabs_LateError qf_law_outcome ((calK 4 [3, 2, 1, 0] (cns (getv 4) (cns (getv 3) (cns (getv 2) (cns (getv 1) (fun _ => pur []))))) g_written) env)) (fun _ => pur [])) reprD) (fun _ => pur [])) appD))
  (seqS (ifS (tst (bin neD (getv 6) (dsp mkL (cns (getv 5) (cns (getv 5) (fun _ => pur [])))))) (ret (fun _ => pur (.bl false))) pass)
  (seqS (set 5 (cal (cns (cal (cns (getv 1) (cns (getv 2) (fun _ => pur []))) g_law_dropped_due) (fun _ => pur [])) reprD))
  (seqS (set 6 (dsp mkN (cns (cal (cns (fun env => heardM "told" tabs_LateError qf_law_outcome ((cal (cns (getv 1) (cns (getv 2) (fun _ => pur []))) g_dropped) env)) (fun _ => pur [])) reprD) (fun _ => pur []))))
  (seqS (drop (met (getv 6) (cns (cal (cns (fun env => heardM "told" tabs_LateError qf_law_outcome ((calK 2 [1, 0] (cns (getv 2) (cns (getv 1) (fun _ => pur []))) g_dropped) env)) (fun _ => pur [])) reprD) (fun _ => pur [])) appD))
  (frzV 6 (ret (bin eqD (getv 6) (dsp mkL (cns (getv 5) (cns (getv 5) (fun _ => pur []))))))))))))))))
def g_law_others_right : List D → M D := bodyD 7 2 b_law_others_right
def b_law : Fx.Env → MS := (seqS (set 1 (cal (cns (getv 0) (fun _ => pur [])) g_law_feed))
  (seqS (asg (fun _ => g_law_document []) (toTup (toCons (toN 2) (toCons (toN 3) toNil))))
  (seqS (set 4 (dsp mkT (cns (fun _ => pur (.str "told")) (cns (dsp mkT (cns (bin ixD (getv 2) (fun _ => pur (.int 0))) (cns (fun _ => pur (.int 3)) (cns (dsp mkT (cns (dsp mkT (cns (fun _ => pur (.int 0)) (cns (fun _ => pur (.str "box")) (cns (dsp mkT (cns (fun _ => pur .non) (cns (fun _ => pur (.int 4)) (fun _ => pur [])))) (fun _ => pur []))))) (cns (dsp mkT (cns (fun _ => pur (.int 2)) (cns (fun _ => pur (.str "box")) (cns (dsp mkT (cns (fun _ => pur .non) (cns (fun _ => pur (.int 9)) (fun _ => pur [])))) (fun _ => pur []))))) (fun _ => pur [])))) (fun _ => pur []))))) (fun _ => pur [])))))
  (seqS (ifS (tst (bin neD (fun env => heardM "told" tabs_LateError qf_law_outcome ((cal (cns (getv 2) (cns (fun _ => pur (.int 1)) (fun _ => pur []))) g_dropped) env)) (getv 4))) (ret (fun _ => pur (.bl false))) pass)
  (seqS (forS (itr1 (cns (cal (cns (getv 0) (cns (fun _ => pur (.int 5)) (fun _ => pur []))) g_law_laps) (fun _ => pur []))) (toN 5) (seqS (set 2 (cal (cns (getv 1) (cns (cal (cns (getv 1) (fun _ => pur [])) g_law_classes) (cns (fun _ => pur (.int 6)) (fun _ => pur [])))) g_law_house))
  (seqS (set 6 (cal (cns (getv 2) (fun _ => pur [])) reprD))
  (seqS (forS (itr1 (cns (fun _ => pur (.int 6)) (fun _ => pur []))) (toN 7) (ifS (orB (notB (tst (cal (cns (getv 1) (cns (getv 2) (fun _ => pur []))) g_law_making_right))) (notB (tst (cal (cns (getv 1) (cns (getv 2) (fun _ => pur []))) g_law_others_right)))) (ret (fun _ => pur (.bl false))) pass))
  (ifS (tst (bin neD (cal (cns (getv 2) (fun _ => pur [])) reprD) (getv 6))) (ret (fun _ => pur (.bl false))) pass)))))
  (ret (fun _ => pur (.bl true))))))))
def g_law : List D → M D := bodyD 8 1 b_law

section
variable {P : Program} {w : World} {K : PySem.W.Frag} {mg : Str → Option Value} {base : Heap}
abbrev N_law_feed : List Str := ["_law_script"]
theorem sc_law_feed : FnScope ["_law_script"] ["_law_script"] (defScope s_law_feed) := ⟨rfl, rfl, rfl, by decide +kernel, rfl, by decide +kernel, by decide +kernel⟩
theorem ok_law_feed (T : Tx w K mg base) : GAt false P w K mg base 1 "_law_feed" s_law_feed ["_law_script"] g_law_feed := g_at T.d_law_feed sc_law_feed fun f cd A outer s H E hcd hG hr => by
    have nd := sc_law_feed.nd
    exact (fss_one (fs_ret (fe_dict (fp_cons pe_str (fe_callT (cf_list mk_L) rfl T.b_list bo_list (fa_cons (fe_slice (fe_var 0) fo_none (fo_some fe_int)) fa_nil)) (fp_cons pe_str fe_int (fp_cons pe_str fe_int (fp_cons pe_str fe_int fp_nil)))) rfl rfl (by simp) (by decide) (by decide))))
abbrev N_law_document : List Str := ["_law_classes_here", "_law_area", "_law_rows"]
theorem sc_law_document : FnScope ["_law_classes_here", "_law_area", "_law_rows"] [] (defScope s_law_document) := ⟨rfl, rfl, rfl, by decide +kernel, rfl, by decide +kernel, by decide +kernel⟩
theorem ok_law_document (T : Tx w K mg base) : GAt false P w K mg base 1 "_law_document" s_law_document [] g_law_document := g_at T.d_law_document sc_law_document fun f cd A outer s H E hcd hG hr => by
    have nd := sc_law_document.nd
    exact (fss_cons (fs_set (i := 0) nd rfl (by first | exact Or.inl rfl | exact Or.inr rfl) (fe_tup (fa_cons (fe_tup (fa_cons fe_str (fa_cons (fe_tup (fa_cons (fe_tup (fa_cons fe_str (fa_cons fe_str fa_nil))) (fa_cons (fe_tup (fa_cons fe_str (fa_cons (fe_tup (fa_cons fe_int (fa_cons fe_int fa_nil))) fa_nil))) fa_nil))) fa_nil))) (fa_cons (fe_tup (fa_cons fe_str (fa_cons (fe_tup (fa_cons (fe_tup (fa_cons fe_str (fa_cons fe_str fa_nil))) (fa_cons (fe_tup (fa_cons fe_str (fa_cons (fe_tup (fa_cons fe_int (fa_cons fe_int fa_nil))) fa_nil))) fa_nil))) fa_nil))) fa_nil))))
      (fss_cons (fs_set (i := 1) nd rfl (by first | exact Or.inl rfl | exact Or.inr rfl) (fe_tup (fa_cons fe_str (fa_cons (fe_tup (fa_cons fe_str (fa_cons (fe_tup (fa_cons fe_str fa_nil)) (fa_cons fe_int fa_nil)))) (fa_cons (fe_tup (fa_cons fe_str (fa_cons (fe_tup (fa_cons fe_str (fa_cons fe_str fa_nil))) (fa_cons fe_int fa_nil)))) fa_nil)))))
      (fss_cons (fs_set (i := 2) nd rfl (by first | exact Or.inl rfl | exact Or.inr rfl) (fe_tup (fa_cons (fe_tup (fa_cons fe_str (fa_cons (fe_tup (fa_cons (fe_tup (fa_cons fe_str (fa_cons (fe_tup (fa_cons fe_int (fa_cons fe_int fa_nil))) fa_nil))) (fa_cons (fe_tup (fa_cons fe_str (fa_cons fe_str fa_nil))) fa_nil))) (fa_cons (fe_tup (fa_cons (fe_var 1) (fa_cons (fe_tup (fa_cons fe_str (fa_cons (fe_tup (fa_cons fe_str fa_nil)) fa_nil))) fa_nil))) fa_nil)))) fa_nil)))
      (fss_one (fs_ret (fe_tup (fa_cons (fe_tup (fa_cons (fe_var 0) (fa_cons fe_int (fa_cons (fe_tup (fa_cons (fe_tup (fa_cons fe_int (fa_cons fe_str (fa_cons (fe_tup (fa_cons fe_int (fa_cons fe_int fa_nil))) fa_nil)))) (fa_cons (fe_tup (fa_cons fe_int (fa_cons fe_str (fa_cons (fe_tup (fa_cons fe_int (fa_cons fe_int fa_nil))) fa_nil)))) (fa_cons (fe_tup (fa_cons fe_int (fa_cons fe_str (fa_cons (fe_tup (fa_cons fe_non (fa_cons fe_int fa_nil))) fa_nil)))) fa_nil)))) fa_nil)))) (fa_cons (fe_var 2) fa_nil))))))))
abbrev N_law_outcome : List Str := ["_law_ask", "_law_found", "e", "_law_homes", "_law_sorts"]
theorem sc_law_outcome : FnScope ["_law_ask", "_law_found", "e", "_law_homes", "_law_sorts"] ["_law_ask"] (defScope s_law_outcome) := ⟨rfl, rfl, rfl, by decide +kernel, rfl, by decide +kernel, by decide +kernel⟩
theorem sus_law_outcome (T : Tx w K mg base) {fs : List Str} (y : String) (L : XLook K mg y ["at", "field", "number", "path", "row", "step", "word"]) (g : Addr) (cdg : Value) (A : Around) (outer : List PySem.Env) (s : Shared) (H : Hp) (a : Addr) (oe : Obj) (dd C : Addr) (pn : List (Addr × Obj)) (hu : A.units + 100 < cLine) (hz : Zc (.ref C) (some dd) oe) (hf : ∃ vs, oe.data = .fields vs) (hx : mg (Str.ofString y) = some (.ref C)) :
    FSs ((cxOf C8.CX0 P w K mg base N_law_outcome "_law_outcome" (defScope s_law_outcome) g cdg A outer s H C8.E0).nox.suite a ((a, oe) :: pn)) W0 (hbody s_law_outcome) (bs_law_outcome a dd y) := by
    have nd := sc_law_outcome.nd
    have hs64 : A.units + 3 + 64 < cLine := by omega
    have hs1 : A.units + 3 + 1 < cLine := by omega
    exact (fss_cons (fs_set (i := 3) nd rfl (by first | exact Or.inl rfl | exact Or.inr rfl) (fe_lst (fa_cons (fe_isE (i := 2) (tab := tabI_PaperError) L hx T.k_PaperError hz hf rfl T.b_isinstance rfl rfl (by first | exact Or.inl rfl | exact Or.inr (Or.inl rfl) | exact Or.inr (Or.inr rfl))) (fa_cons (fe_isE (i := 2) (tab := tabI_StoreError) L hx T.k_StoreError hz hf rfl T.b_isinstance rfl rfl (by first | exact Or.inl rfl | exact Or.inr (Or.inl rfl) | exact Or.inr (Or.inr rfl))) (fa_cons (fe_isE (i := 2) (tab := tabI_TextError) L hx T.k_TextError hz hf rfl T.b_isinstance rfl rfl (by first | exact Or.inl rfl | exact Or.inr (Or.inl rfl) | exact Or.inr (Or.inr rfl))) fa_nil)))))
      (fss_cons (fs_set (i := 4) nd rfl (by first | exact Or.inl rfl | exact Or.inr rfl) (fe_lst (fa_cons (fe_isE (i := 2) (tab := tabI_InvalidPaper) L hx T.k_InvalidPaper hz hf rfl T.b_isinstance rfl rfl (by first | exact Or.inl rfl | exact Or.inr (Or.inl rfl) | exact Or.inr (Or.inr rfl))) (fa_cons (fe_isE (i := 2) (tab := tabI_UnknownObject) L hx T.k_UnknownObject hz hf rfl T.b_isinstance rfl rfl (by first | exact Or.inl rfl | exact Or.inr (Or.inl rfl) | exact Or.inr (Or.inr rfl))) (fa_cons (fe_isE (i := 2) (tab := tabI_InvalidStep) L hx T.k_InvalidStep hz hf rfl T.b_isinstance rfl rfl (by first | exact Or.inl rfl | exact Or.inr (Or.inl rfl) | exact Or.inr (Or.inr rfl))) fa_nil)))))
      (fss_cons (fs_set (i := 4) nd rfl (by first | exact Or.inl rfl | exact Or.inr rfl) (fe_bin (of_add mk_L) (fe_var 4) (fe_lst (fa_cons (fe_isE (i := 2) (tab := tabI_UnfitExpression) L hx T.k_UnfitExpression hz hf rfl T.b_isinstance rfl rfl (by first | exact Or.inl rfl | exact Or.inr (Or.inl rfl) | exact Or.inr (Or.inr rfl))) (fa_cons (fe_isE (i := 2) (tab := tabI_InvalidText) L hx T.k_InvalidText hz hf rfl T.b_isinstance rfl rfl (by first | exact Or.inl rfl | exact Or.inr (Or.inl rfl) | exact Or.inr (Or.inr rfl))) fa_nil)))))
      (fss_cons (fs_if (FW.ft (fw_or (ft_not (ft_val (fe_isEB (i := 2) (T := "ValueError") (tab := tabI_ValueError) L hx T.kb_ValueError hz hf rfl T.b_isinstance rfl T.b_ValueError bo_ValueError rfl (by first | exact Or.inl rfl | exact Or.inr (Or.inl rfl) | exact Or.inr (Or.inr rfl))))) (fw_or1 (ft_val (fe_isET (i := 2) (tab := tabI_GoneCell_NothingToUndo_InvalidPace_InvalidCommand) [("GoneCell", _), ("NothingToUndo", _), ("InvalidPace", _), ("InvalidCommand", _)] L hx T.k_GoneCell_NothingToUndo_InvalidPace_InvalidCommand hz hf rfl T.b_isinstance (by intro z hz; simp at hz; rcases hz with rfl | rfl | rfl | rfl <;> exact ⟨rfl, by decide⟩) (by decide) rfl (by first | exact Or.inl rfl | exact Or.inr (Or.inl rfl) | exact Or.inr (Or.inr rfl))))))) (fss_one (fs_set (i := 4) nd rfl (by first | exact Or.inl rfl | exact Or.inr rfl) (fe_lst fa_nil))) fss_nil)
      (fss_cons (fs_if (FW.ft (fw_and (ft_cmp (of_eq hs64) (fe_var 4) (fe_lst (fa_cons fe_bl (fa_cons fe_bl (fa_cons fe_bl (fa_cons fe_bl (fa_cons fe_bl fa_nil)))))) (by rfl)) (fw_and1 (ft_cmp (of_eq hs64) (fe_var 3) (fe_lst (fa_cons fe_bl (fa_cons fe_bl (fa_cons fe_bl fa_nil)))) (by rfl))))) (fss_one (fs_set (i := 1) nd rfl (by first | exact Or.inl rfl | exact Or.inr rfl) (fe_tup (fa_cons fe_str (fa_cons (fe_fldE (i := 2) L hx (by decide) hz hf rfl (by first | exact Or.inl rfl | exact Or.inr (Or.inl rfl) | exact Or.inr (Or.inr rfl))) (fa_cons (fe_fldE (i := 2) L hx (by decide) hz hf rfl (by first | exact Or.inl rfl | exact Or.inr (Or.inl rfl) | exact Or.inr (Or.inr rfl))) fa_nil)))))) fss_nil)
      (fss_cons (fs_if (FW.ft (fw_and (ft_cmp (of_eq hs64) (fe_var 4) (fe_lst (fa_cons fe_bl (fa_cons fe_bl (fa_cons fe_bl (fa_cons fe_bl (fa_cons fe_bl fa_nil)))))) (by rfl)) (fw_and1 (ft_cmp (of_eq hs64) (fe_var 3) (fe_lst (fa_cons fe_bl (fa_cons fe_bl (fa_cons fe_bl fa_nil)))) (by rfl))))) (fss_one (fs_set (i := 1) nd rfl (by first | exact Or.inl rfl | exact Or.inr rfl) (fe_tup (fa_cons fe_str (fa_cons (fe_fldE (i := 2) L hx (by decide) hz hf rfl (by first | exact Or.inl rfl | exact Or.inr (Or.inl rfl) | exact Or.inr (Or.inr rfl))) fa_nil))))) fss_nil)
      (fss_cons (fs_if (FW.ft (fw_and (ft_cmp (of_eq hs64) (fe_var 4) (fe_lst (fa_cons fe_bl (fa_cons fe_bl (fa_cons fe_bl (fa_cons fe_bl (fa_cons fe_bl fa_nil)))))) (by rfl)) (fw_and1 (ft_cmp (of_eq hs64) (fe_var 3) (fe_lst (fa_cons fe_bl (fa_cons fe_bl (fa_cons fe_bl fa_nil)))) (by rfl))))) (fss_one (fs_set (i := 1) nd rfl (by first | exact Or.inl rfl | exact Or.inr rfl) (fe_tup (fa_cons fe_str (fa_cons (fe_fldE (i := 2) L hx (by decide) hz hf rfl (by first | exact Or.inl rfl | exact Or.inr (Or.inl rfl) | exact Or.inr (Or.inr rfl))) (fa_cons (fe_fldE (i := 2) L hx (by decide) hz hf rfl (by first | exact Or.inl rfl | exact Or.inr (Or.inl rfl) | exact Or.inr (Or.inr rfl))) fa_nil)))))) fss_nil)
      (fss_cons (fs_if (FW.ft (fw_and (ft_cmp (of_eq hs64) (fe_var 4) (fe_lst (fa_cons fe_bl (fa_cons fe_bl (fa_cons fe_bl (fa_cons fe_bl (fa_cons fe_bl fa_nil)))))) (by rfl)) (fw_and1 (ft_cmp (of_eq hs64) (fe_var 3) (fe_lst (fa_cons fe_bl (fa_cons fe_bl (fa_cons fe_bl fa_nil)))) (by rfl))))) (fss_one (fs_set (i := 1) nd rfl (by first | exact Or.inl rfl | exact Or.inr rfl) (fe_tup (fa_cons fe_str (fa_cons (fe_fldE (i := 2) L hx (by decide) hz hf rfl (by first | exact Or.inl rfl | exact Or.inr (Or.inl rfl) | exact Or.inr (Or.inr rfl))) fa_nil))))) fss_nil)
      (fss_one (fs_if (FW.ft (fw_and (ft_cmp (of_eq hs64) (fe_var 4) (fe_lst (fa_cons fe_bl (fa_cons fe_bl (fa_cons fe_bl (fa_cons fe_bl (fa_cons fe_bl fa_nil)))))) (by rfl)) (fw_and1 (ft_cmp (of_eq hs64) (fe_var 3) (fe_lst (fa_cons fe_bl (fa_cons fe_bl (fa_cons fe_bl fa_nil)))) (by rfl))))) (fss_one (fs_set (i := 1) nd rfl (by first | exact Or.inl rfl | exact Or.inr rfl) (fe_tup (fa_cons fe_str (fa_cons (fe_fldE (i := 2) L hx (by decide) hz hf rfl (by first | exact Or.inl rfl | exact Or.inr (Or.inl rfl) | exact Or.inr (Or.inr rfl))) (fa_cons (fe_fldE (i := 2) L hx (by decide) hz hf rfl (by first | exact Or.inl rfl | exact Or.inr (Or.inl rfl) | exact Or.inr (Or.inr rfl))) fa_nil)))))) fss_nil))))))))))
theorem su_law_outcome (T : Tx w K mg base) : SuiteOk P w K mg base "_law_outcome" (defScope s_law_outcome) N_law_outcome (hbody s_law_outcome) sg_law_outcome := fun g cdg A outer s H a oe dd C y pn hu hz hf hx => by
  unfold sg_law_outcome
  split
  · rename_i e; subst e; exact sus_law_outcome T (fs := []) _ T.L_InvalidStep g cdg A outer s H a oe dd C pn hu hz hf hx
  split
  · rename_i e; subst e; exact sus_law_outcome T (fs := []) _ T.L_UnknownObject g cdg A outer s H a oe dd C pn hu hz hf hx
  exact fss_no
abbrev N_law_laps : List Str := ["_law_script", "_law_count"]
theorem sc_law_laps : FnScope ["_law_script", "_law_count"] ["_law_script", "_law_count"] (defScope s_law_laps) := ⟨rfl, rfl, rfl, by decide +kernel, rfl, by decide +kernel, by decide +kernel⟩
theorem ok_law_laps (T : Tx w K mg base) : GAt false P w K mg base 1 "_law_laps" s_law_laps ["_law_script", "_law_count"] g_law_laps := g_at T.d_law_laps sc_law_laps fun f cd A outer s H E hcd hG hr => by
    have nd := sc_law_laps.nd
    exact (fss_one (fs_ret (fe_ite (ft_cmp (of_ne (hu64 hr)) (fe_var 0) (fe_lst fa_nil) (by rfl)) (fe_var 1) fe_int)))
abbrev N_law_draw : List Str := ["_law_feed_here", "_law_many", "_law_digit", "_law_at", "_law_cell", "_law_mixed"]
theorem sc_law_draw : FnScope ["_law_feed_here", "_law_many", "_law_digit", "_law_at", "_law_cell", "_law_mixed"] ["_law_feed_here", "_law_many"] (defScope s_law_draw) := ⟨rfl, rfl, rfl, by decide +kernel, rfl, by decide +kernel, by decide +kernel⟩
theorem ok_law_draw (T : Tx w K mg base) : GAt false P w K mg base 1 "_law_draw" s_law_draw ["_law_feed_here", "_law_many"] g_law_draw := g_at T.d_law_draw sc_law_draw fun f cd A outer s H E hcd hG hr => by
    have nd := sc_law_draw.nd
    exact (fss_cons (fs_dput (hu1 hr) (fe_var 0) fe_str (fe_bin (of_add mk_L) (fe_dget (hu1 hr) (fe_var 0) fe_str (by intro _ _; rfl)) fe_int) (by rfl))
      (fss_cons (fs_if (ft_cmp (of_eq (hu64 hr)) (fe_dget (hu1 hr) (fe_var 0) fe_str (by intro _ _; rfl)) (fe_lst fa_nil) (by rfl)) (fss_one (fs_ret (fe_bin of_mod (fe_callT cf_int rfl T.b_int bo_int (fa_cons (fe_dget (hu1 hr) (fe_var 0) fe_str (by intro _ _; rfl)) fa_nil)) (fe_var 1)))) fss_nil)
      (fss_cons (fs_if (ft_cmp of_gt (fe_dget (hu1 hr) (fe_var 0) fe_str (by intro _ _; rfl)) fe_int (by rfl)) (fss_cons (fs_set (i := 2) nd rfl (by first | exact Or.inl rfl | exact Or.inr rfl) (fe_bin of_mod (fe_callT cf_int rfl T.b_int bo_int (fa_cons (fe_dget (hu1 hr) (fe_var 0) fe_str (by intro _ _; rfl)) fa_nil)) (fe_var 1)))
      (fss_cons (fs_dput (hu1 hr) (fe_var 0) fe_str (fe_bin of_fdiv (fe_dget (hu1 hr) (fe_var 0) fe_str (by intro _ _; rfl)) (fe_var 1)) (by rfl))
      (fss_one (fs_ret (fe_var 2))))) fss_nil)
      (fss_cons (fs_set (i := 3) nd rfl (by first | exact Or.inl rfl | exact Or.inr rfl) (fe_dget (hu1 hr) (fe_var 0) fe_str (by intro _ _; rfl)))
      (fss_cons (fs_dput (hu1 hr) (fe_var 0) fe_str (fe_bin (of_add mk_L) (fe_var 3) fe_int) (by rfl))
      (fss_cons (fs_set (i := 4) nd rfl (by first | exact Or.inl rfl | exact Or.inr rfl) (fe_ix (fe_dget (hu1 hr) (fe_var 0) fe_str (by intro _ _; rfl)) (fe_bin of_mod (fe_callT cf_int rfl T.b_int bo_int (fa_cons (fe_var 3) fa_nil)) (fe_callB cf_len rfl T.b_len bo_len (fa_cons (fe_dget (hu1 hr) (fe_var 0) fe_str (by intro _ _; rfl)) fa_nil))) (by intro _ _; rfl)))
      (fss_cons (fs_if (FW.ft (fw_and (ft_cmp of_ge (fe_var 4) (fe_bin of_pow fe_int fe_int) (by rfl)) (fw_and1 (ft_cmp of_lt (fe_var 3) (fe_callB cf_len rfl T.b_len bo_len (fa_cons (fe_dget (hu1 hr) (fe_var 0) fe_str (by intro _ _; rfl)) fa_nil)) (by rfl))))) (fss_cons (fs_dput (hu1 hr) (fe_var 0) fe_str (fe_bin of_fdiv (fe_var 4) (fe_var 1)) (by rfl))
      (fss_one (fs_ret (fe_bin of_mod (fe_callT cf_int rfl T.b_int bo_int (fa_cons (fe_var 4) fa_nil)) (fe_var 1))))) fss_nil)
      (fss_cons (fs_set (i := 5) nd rfl (by first | exact Or.inl rfl | exact Or.inr rfl) (fe_bin of_mod (fe_callT cf_int rfl T.b_int bo_int (fa_cons (fe_bin (of_add mk_L) (fe_bin (of_add mk_L) (fe_bin of_mod (fe_callT cf_int rfl T.b_int bo_int (fa_cons (fe_var 4) fa_nil)) fe_int) (fe_bin of_mul fe_int (fe_dget (hu1 hr) (fe_var 0) fe_str (by intro _ _; rfl)))) fe_int) fa_nil)) fe_int))
      (fss_cons (fs_set (i := 5) nd rfl (by first | exact Or.inl rfl | exact Or.inr rfl) (fe_bin of_mod (fe_callT cf_int rfl T.b_int bo_int (fa_cons (fe_bin (of_add mk_L) (fe_bin (of_add mk_L) (fe_bin of_pow (fe_var 5) fe_int) (fe_bin of_mul fe_int (fe_dget (hu1 hr) (fe_var 0) fe_str (by intro _ _; rfl)))) fe_int) fa_nil)) fe_int))
      (fss_one (fs_ret (fe_bin of_mod (fe_callT cf_int rfl T.b_int bo_int (fa_cons (fe_bin of_fdiv (fe_bin of_mod (fe_callT cf_int rfl T.b_int bo_int (fa_cons (fe_bin (of_add mk_L) (fe_bin of_pow (fe_var 5) fe_int) (fe_bin of_mul fe_int (fe_var 5))) fa_nil)) fe_int) fe_int) fa_nil)) (fe_var 1)))))))))))))
abbrev N_law_any : List Str := ["_law_feed_here", "_law_some"]
theorem sc_law_any : FnScope ["_law_feed_here", "_law_some"] ["_law_feed_here", "_law_some"] (defScope s_law_any) := ⟨rfl, rfl, rfl, by decide +kernel, rfl, by decide +kernel, by decide +kernel⟩
theorem ok_law_any (T : Tx w K mg base) : GAt false P w K mg base 2 "_law_any" s_law_any ["_law_feed_here", "_law_some"] g_law_any := g_at T.d_law_any sc_law_any fun f cd A outer s H E hcd hG hr => by
    have nd := sc_law_any.nd
    exact (fss_one (fs_ret (fe_ix (fe_var 1) (fe_callD (ok_law_draw T) (fun z => nomatch z) (hr.mono (by decide)) rfl (takes_of rfl rfl rfl rfl) (fa_cons (fe_var 0) (fa_cons (fe_callB cf_len rfl T.b_len bo_len (fa_cons (fe_var 1) fa_nil)) fa_nil))) (by intro _ _; rfl))))
abbrev N_law_fitting : List Str := ["_law_feed_here", "_law_sort", "_law_members", "_law_n", "_law_own"]
theorem sc_law_fitting : FnScope ["_law_feed_here", "_law_sort", "_law_members", "_law_n", "_law_own"] ["_law_feed_here", "_law_sort", "_law_members"] (defScope s_law_fitting) := ⟨rfl, rfl, rfl, by decide +kernel, rfl, by decide +kernel, by decide +kernel⟩
theorem ok_law_fitting (T : Tx w K mg base) : GAt false P w K mg base 3 "_law_fitting" s_law_fitting ["_law_feed_here", "_law_sort", "_law_members"] g_law_fitting := g_at T.d_law_fitting sc_law_fitting fun f cd A outer s H E hcd hG hr => by
    have nd := sc_law_fitting.nd
    exact (fss_cons (fs_if (ft_val (fe_isi (T := "tuple") rfl (by decide) rfl T.b_isinstance rfl T.b_tuple bo_tuple bo_isinstance (fe_var 1))) (fss_one (fs_ret (fe_bin (of_add mk_L) (fe_ix (fe_var 1) fe_int (by intro _ _; rfl)) (fe_callD (ok_law_draw T) (fun z => nomatch z) (hr.mono (by decide)) rfl (takes_of rfl rfl rfl rfl) (fa_cons (fe_var 0) (fa_cons (fe_bin (of_add mk_L) (fe_bin of_sub (fe_ix (fe_var 1) fe_int (by intro _ _; rfl)) (fe_ix (fe_var 1) fe_int (by intro _ _; rfl))) fe_int) fa_nil)))))) fss_nil)
      (fss_one (fs_ret (fe_callD (ok_law_any T) (fun z => nomatch z) (hr.mono (by decide)) rfl (takes_of rfl rfl rfl rfl) (fa_cons (fe_var 0) (fa_cons (fe_bin (of_add mk_L) (fe_lst (fa_cons fe_non fa_nil)) (fe_lc (own := [("_law_n", 3), ("_law_own", 4)]) kp_L rfl nd (fi_seq (fe_var 2)) (blkOk_by (N := N_law_fitting) (sc := defScope s_law_fitting) (by decide +kernel)) (by decide) (fun s2 H2 C2 cl2 fp2 => (fg_tup rfl (fgs_cons (fg_name (i := 3) nd rfl (by first | exact Or.inl rfl | exact Or.inr rfl)) (fgs_cons (fg_name (i := 4) nd rfl (by first | exact Or.inl rfl | exact Or.inr rfl)) fgs_nil)))) (fun s2 H2 C2 cl2 fp2 => pts_if (ft_cmp (of_eq (hu64 hr)) (fe_var 4) (fe_var 1) (by rfl))) (fun s2 H2 C2 cl2 fp2 => (fe_var 3)))) fa_nil))))))
abbrev N_law_values : List Str := ["_law_feed_here", "_law_lot_here", "_law_members", "_law_label", "_law_sort"]
theorem sc_law_values : FnScope ["_law_feed_here", "_law_lot_here", "_law_members", "_law_label", "_law_sort"] ["_law_feed_here", "_law_lot_here", "_law_members"] (defScope s_law_values) := ⟨rfl, rfl, rfl, by decide +kernel, rfl, by decide +kernel, by decide +kernel⟩
theorem ok_law_values (T : Tx w K mg base) : GAt false P w K mg base 4 "_law_values" s_law_values ["_law_feed_here", "_law_lot_here", "_law_members"] g_law_values := g_at T.d_law_values sc_law_values fun f cd A outer s H E hcd hG hr => by
    have nd := sc_law_values.nd
    exact (fss_one (fs_ret (fe_callT cf_tuple rfl T.b_tuple bo_tuple (fa_cons (fe_lc (own := [("_law_label", 3), ("_law_sort", 4)]) kp_L rfl nd (fi_seq (fe_var 1)) (blkOk_by (N := N_law_values) (sc := defScope s_law_values) (by decide +kernel)) (by decide) (fun s2 H2 C2 cl2 fp2 => (fg_tup rfl (fgs_cons (fg_name (i := 3) nd rfl (by first | exact Or.inl rfl | exact Or.inr rfl)) (fgs_cons (fg_name (i := 4) nd rfl (by first | exact Or.inl rfl | exact Or.inr rfl)) fgs_nil)))) (fun s2 H2 C2 cl2 fp2 => pts_no rfl) (fun s2 H2 C2 cl2 fp2 => (fe_callD (ok_law_fitting T) (fun z => nomatch z) (hr.mono (by decide)) rfl tk0 (fa_cons (fe_var 0) (fa_cons (fe_var 4) (fa_cons (fe_var 2) fa_nil)))))) fa_nil))))
abbrev N_law_house : List Str := ["_law_feed_here", "_law_classes_here", "_law_most", "_law_names", "_law_count", "_law_own", "_law_lot_here", "_law_members", "_law_n", "_law_things"]
theorem sc_law_house : FnScope ["_law_feed_here", "_law_classes_here", "_law_most", "_law_names", "_law_count", "_law_own", "_law_lot_here", "_law_members", "_law_n", "_law_things"] ["_law_feed_here", "_law_classes_here", "_law_most"] (defScope s_law_house) := ⟨rfl, rfl, rfl, by decide +kernel, rfl, by decide +kernel, by decide +kernel⟩
theorem ok_law_house (T : Tx w K mg base) : GAt false P w K mg base 5 "_law_house" s_law_house ["_law_feed_here", "_law_classes_here", "_law_most"] g_law_house := g_at T.d_law_house sc_law_house fun f cd A outer s H E hcd hG hr => by
    have nd := sc_law_house.nd
    exact (fss_cons (fs_asg (fe_tup (fa_cons (fe_lc (own := [("_law_own", 5), ("_law_lot_here", 6)]) kp_L rfl nd (fi_seq (fe_var 1)) (blkOk_by (N := N_law_house) (sc := defScope s_law_house) (by decide +kernel)) (by decide) (fun s2 H2 C2 cl2 fp2 => (fg_tup rfl (fgs_cons (fg_name (i := 5) nd rfl (by first | exact Or.inl rfl | exact Or.inr rfl)) (fgs_cons (fg_name (i := 6) nd rfl (by first | exact Or.inl rfl | exact Or.inr rfl)) fgs_nil)))) (fun s2 H2 C2 cl2 fp2 => pts_no rfl) (fun s2 H2 C2 cl2 fp2 => (fe_var 5))) (fa_cons (fe_callD (ok_law_draw T) (fun z => nomatch z) (hr.mono (by decide)) rfl (takes_of rfl rfl rfl rfl) (fa_cons (fe_var 0) (fa_cons (fe_bin (of_add mk_L) (fe_var 2) fe_int) fa_nil))) fa_nil))) (fg_tup rfl (fgs_cons (fg_name (i := 3) nd rfl (by first | exact Or.inl rfl | exact Or.inr rfl)) (fgs_cons (fg_name (i := 4) nd rfl (by first | exact Or.inl rfl | exact Or.inr rfl)) fgs_nil))))
      (fss_cons (fs_set (i := 7) nd rfl (by first | exact Or.inl rfl | exact Or.inr rfl) (fe_lc (own := [("_law_n", 8)]) kp_L rfl nd (fi_range1 rfl T.b_range (fa_cons (fe_var 4) fa_nil)) (blkOk_by (N := N_law_house) (sc := defScope s_law_house) (by decide +kernel)) (by decide) (fun s2 H2 C2 cl2 fp2 => (fg_name (i := 8) nd rfl (by first | exact Or.inl rfl | exact Or.inr rfl))) (fun s2 H2 C2 cl2 fp2 => pts_if (ft_cmp of_gt (fe_callD (ok_law_draw T) (fun z => nomatch z) (hr.mono (by decide)) rfl tk0 (fa_cons (fe_var 0) (fa_cons fe_int fa_nil))) fe_int (by rfl))) (fun s2 H2 C2 cl2 fp2 => (fe_tup (fa_cons (fe_var 8) (fa_cons (fe_callD (ok_law_any T) (fun z => nomatch z) (hr.mono (by decide)) rfl tk0 (fa_cons (fe_var 0) (fa_cons (fe_var 3) fa_nil))) fa_nil))))))
      (fss_cons (fs_setLc (i := 9) rfl rfl rfl rfl rfl (own := [("_law_n", 8), ("_law_own", 5)]) kp_L rfl nd (fi_seq (fe_var 7)) (blkOk_by (N := N_law_house) (sc := defScope s_law_house) (by decide +kernel)) (by decide) (fun s2 H2 C2 cl2 fp2 => (fg_tup rfl (fgs_cons (fg_name (i := 8) nd rfl (by first | exact Or.inl rfl | exact Or.inr rfl)) (fgs_cons (fg_name (i := 5) nd rfl (by first | exact Or.inl rfl | exact Or.inr rfl)) fgs_nil)))) (fun s2 H2 C2 cl2 fp2 => pts_no rfl) (fun s2 H2 C2 cl2 fp2 => (fe_tup (fa_cons (fe_var 8) (fa_cons (fe_var 5) (fa_cons (fe_callD (ok_law_values T) (fun z => nomatch z) (hr.mono (by decide)) rfl tk0 (fa_cons (fe_var 0) (fa_cons (fe_dget (hu1 hr) (fe_callT (cf_dict rfl) rfl T.b_dict bo_dict (fa_cons (fe_var 1) fa_nil)) (fe_var 5) (by intro _ _; rfl)) (fa_cons (fe_var 7) fa_nil)))) fa_nil))))))
      (fss_one (fs_ret (fe_tup (fa_cons (fe_var 1) (fa_cons (fe_var 4) (fa_cons (fe_callT cf_tuple rfl T.b_tuple bo_tuple (fa_cons (fe_var 9) fa_nil)) fa_nil)))))))))
abbrev N_law_lot : List Str := ["_law_feed_here", "_law_names", "_law_found", "_law_label", "_law_which"]
theorem sc_law_lot : FnScope ["_law_feed_here", "_law_names", "_law_found", "_law_label", "_law_which"] ["_law_feed_here", "_law_names"] (defScope s_law_lot) := ⟨rfl, rfl, rfl, by decide +kernel, rfl, by decide +kernel, by decide +kernel⟩
theorem ok_law_lot (T : Tx w K mg base) : GAt false P w K mg base 3 "_law_lot" s_law_lot ["_law_feed_here", "_law_names"] g_law_lot := g_at T.d_law_lot sc_law_lot fun f cd A outer s H E hcd hG hr => by
    have nd := sc_law_lot.nd
    exact (fss_cons (fs_set (i := 2) nd rfl (by first | exact Or.inl rfl | exact Or.inr rfl) (fe_new fa_nil))
      (fss_cons (fs_for (passes_of rfl) rfl (fi_seq (fe_ite (ft_cmp of_gt (fe_callD (ok_law_draw T) (fun z => nomatch z) (hr.mono (by decide)) rfl (takes_of rfl rfl rfl rfl) (fa_cons (fe_var 0) (fa_cons fe_int fa_nil))) fe_int (by rfl)) (fe_tup (fa_cons fe_str (fa_cons fe_str (fa_cons fe_str (fa_cons fe_str fa_nil))))) (fe_tup fa_nil))) (fg_name (i := 3) nd rfl (by first | exact Or.inl rfl | exact Or.inr rfl)) (fss_cons (fs_set (i := 4) nd rfl (by first | exact Or.inl rfl | exact Or.inr rfl) (fe_callD (ok_law_draw T) (fun z => nomatch z) (hr.mono (by decide)) rfl (takes_of rfl rfl rfl rfl) (fa_cons (fe_var 0) (fa_cons fe_int fa_nil))))
      (fss_one (fs_if (ft_cmp of_lt (fe_var 4) fe_int (by rfl)) (fss_one (fs_expr (fe_append ⟨rfl, rfl, rfl, rfl, rfl⟩ (fe_var 2) (fa_cons (fe_tup (fa_cons (fe_var 3) (fa_cons (fe_callD (ok_law_any T) (fun z => nomatch z) (hr.mono (by decide)) rfl (takes_of rfl rfl rfl rfl) (fa_cons (fe_var 0) (fa_cons (fe_lst (fa_cons (fe_tup (fa_cons fe_int (fa_cons fe_int fa_nil))) (fa_cons (fe_tup (fa_cons fe_int (fa_cons fe_int fa_nil))) (fa_cons (fe_tup (fa_cons (fe_un of_neg fe_int) (fa_cons fe_int fa_nil))) (fa_cons (fe_tup (fa_cons fe_int (fa_cons fe_int fa_nil))) (fa_cons (fe_tup (fa_cons (fe_un of_neg fe_int) (fa_cons fe_int fa_nil))) fa_nil)))))) fa_nil))) fa_nil))) fa_nil)))) (fss_one (fs_if (ft_cmp of_lt (fe_var 4) fe_int (by rfl)) (fss_one (fs_expr (fe_append ⟨rfl, rfl, rfl, rfl, rfl⟩ (fe_var 2) (fa_cons (fe_tup (fa_cons (fe_var 3) (fa_cons (fe_callD (ok_law_any T) (fun z => nomatch z) (hr.mono (by decide)) rfl (takes_of rfl rfl rfl rfl) (fa_cons (fe_var 0) (fa_cons (fe_var 1) fa_nil))) fa_nil))) fa_nil)))) fss_nil))))))
      (fss_frz 2 (fss_one (fs_ret (fe_callT cf_tuple rfl T.b_tuple bo_tuple (fa_cons (fe_var 2) fa_nil)))))))
abbrev N_law_classes : List Str := ["_law_feed_here", "_law_names", "_law_own"]
theorem sc_law_classes : FnScope ["_law_feed_here", "_law_names", "_law_own"] ["_law_feed_here"] (defScope s_law_classes) := ⟨rfl, rfl, rfl, by decide +kernel, rfl, by decide +kernel, by decide +kernel⟩
theorem ok_law_classes (T : Tx w K mg base) : GAt false P w K mg base 4 "_law_classes" s_law_classes ["_law_feed_here"] g_law_classes := g_at T.d_law_classes sc_law_classes fun f cd A outer s H E hcd hG hr => by
    have nd := sc_law_classes.nd
    exact (fss_cons (fs_set (i := 1) nd rfl (by first | exact Or.inl rfl | exact Or.inr rfl) (fe_slice (fe_lst (fa_cons fe_str (fa_cons fe_str (fa_cons fe_str fa_nil)))) fo_none (fo_some (fe_bin (of_add mk_L) fe_int (fe_callD (ok_law_draw T) (fun z => nomatch z) (hr.mono (by decide)) rfl (takes_of rfl rfl rfl rfl) (fa_cons (fe_var 0) (fa_cons fe_int fa_nil)))))))
      (fss_one (fs_ret (fe_callT cf_tuple rfl T.b_tuple bo_tuple (fa_cons (fe_lc (own := [("_law_own", 2)]) kp_L rfl nd (fi_seq (fe_var 1)) (blkOk_by (N := N_law_classes) (sc := defScope s_law_classes) (by decide +kernel)) (by decide) (fun s2 H2 C2 cl2 fp2 => (fg_name (i := 2) nd rfl (by first | exact Or.inl rfl | exact Or.inr rfl))) (fun s2 H2 C2 cl2 fp2 => pts_no rfl) (fun s2 H2 C2 cl2 fp2 => (fe_tup (fa_cons (fe_var 2) (fa_cons (fe_callD (ok_law_lot T) (fun z => nomatch z) (hr.mono (by decide)) rfl tk0 (fa_cons (fe_var 0) (fa_cons (fe_var 1) fa_nil))) fa_nil))))) fa_nil)))))
abbrev N_is_integer : List Str := ["thing"]
theorem sc_is_integer : FnScope ["thing"] ["thing"] (defScope s_is_integer) := ⟨rfl, rfl, rfl, by decide +kernel, rfl, by decide +kernel, by decide +kernel⟩
theorem ok_is_integer (T : Tx w K mg base) : GAt false P w K mg base 1 "is_integer" s_is_integer ["thing"] g_is_integer := g_at T.d_is_integer sc_is_integer fun f cd A outer s H E hcd hG hr => by
    have nd := sc_is_integer.nd
    exact (fss_one (fs_ret (fe_and (fe_isi (T := "int") rfl (by decide) rfl T.b_isinstance rfl T.b_int bo_int bo_isinstance (fe_var 0)) (fe_one (fe_not (fe_isi (T := "bool") rfl (by decide) rfl T.b_isinstance rfl T.b_bool bo_bool bo_isinstance (fe_var 0)))))))
abbrev N_classes_of : List Str := ["plain", "number", "cls", "_"]
theorem sc_classes_of : FnScope ["plain", "number", "cls", "_"] ["plain"] (defScope s_classes_of) := ⟨rfl, rfl, rfl, by decide +kernel, rfl, by decide +kernel, by decide +kernel⟩
theorem ok_classes_of (T : Tx w K mg base) : GAt false P w K mg base 1 "classes_of" s_classes_of ["plain"] g_classes_of := g_at T.d_classes_of sc_classes_of fun f cd A outer s H E hcd hG hr => by
    have nd := sc_classes_of.nd
    exact (fss_one (fs_ret (fe_dc (own := [("number", 1), ("cls", 2), ("_", 3)]) rfl nd (fi_seq (fe_ix (fe_var 0) fe_int (by intro _ _; rfl))) (blkOk_by (N := N_classes_of) (sc := defScope s_classes_of) (by decide +kernel)) (by decide) (fun s2 H2 C2 cl2 fp2 => (fg_tup rfl (fgs_cons (fg_name (i := 1) nd rfl (by first | exact Or.inl rfl | exact Or.inr rfl)) (fgs_cons (fg_name (i := 2) nd rfl (by first | exact Or.inl rfl | exact Or.inr rfl)) (fgs_cons (fg_name (i := 3) nd rfl (by first | exact Or.inl rfl | exact Or.inr rfl)) fgs_nil))))) (fun s2 H2 C2 cl2 fp2 => pts_no rfl) (fun s2 H2 C2 cl2 fp2 => (fe_var 1)) (fun s2 H2 C2 cl2 fp2 => (fe_var 2)))))
abbrev N_check_number : List Str := ["plain", "number"]
theorem sc_check_number : FnScope ["plain", "number"] ["plain", "number"] (defScope s_check_number) := ⟨rfl, rfl, rfl, by decide +kernel, rfl, by decide +kernel, by decide +kernel⟩
theorem ok_check_number (T : Tx w K mg base) : GAt false P w K mg base 3 "check_number" s_check_number ["plain", "number"] g_check_number := g_at T.d_check_number sc_check_number fun f cd A outer s H E hcd hG hr => by
    have nd := sc_check_number.nd
    exact (fss_one (fs_if (FW.ft (fw_or (ft_not (ft_val (fe_callD (ok_is_integer T) (fun z => nomatch z) (hr.mono (by decide)) rfl (takes_of rfl rfl rfl rfl) (fa_cons (fe_var 1) fa_nil)))) (fw_or1 (ft_cmp (of_dnotin (hu1 hr)) (fe_var 1) (fe_callD (ok_classes_of T) (fun z => nomatch z) (hr.mono (by decide)) rfl (takes_of rfl rfl rfl rfl) (fa_cons (fe_var 0) fa_nil)) (by rfl))))) (fss_one (fs_raise1 (x := "UnknownObject") (f := "number") (k := 0) T.x_UnknownObject rfl (takes_of rfl rfl rfl rfl) (hr.mono (by decide)) rfl (fa_cons (fe_var 1) fa_nil))) fss_nil))
abbrev N_is_link : List Str := ["kind"]
theorem sc_is_link : FnScope ["kind"] ["kind"] (defScope s_is_link) := ⟨rfl, rfl, rfl, by decide +kernel, rfl, by decide +kernel, by decide +kernel⟩
theorem ok_is_link (T : Tx w K mg base) : GAt false P w K mg base 1 "is_link" s_is_link ["kind"] g_is_link := g_at T.d_is_link sc_is_link fun f cd A outer s H E hcd hG hr => by
    have nd := sc_is_link.nd
    exact (fss_one (fs_ret (fe_isi (T := "str") rfl (by decide) rfl T.b_isinstance rfl T.b_str bo_str bo_isinstance (fe_var 0))))
abbrev N_unlinked : List Str := ["form", "values", "number", "_", "kind", "value"]
theorem sc_unlinked : FnScope ["form", "values", "number", "_", "kind", "value"] ["form", "values", "number"] (defScope s_unlinked) := ⟨rfl, rfl, rfl, by decide +kernel, rfl, by decide +kernel, by decide +kernel⟩
theorem ok_unlinked (T : Tx w K mg base) : GAt false P w K mg base 2 "unlinked" s_unlinked ["form", "values", "number"] g_unlinked := g_at T.d_unlinked sc_unlinked fun f cd A outer s H E hcd hG hr => by
    have nd := sc_unlinked.nd
    exact (fss_one (fs_ret (fe_callT cf_tuple rfl T.b_tuple bo_tuple (fa_cons (fe_lc (own := [("value", 5), ("_", 3), ("kind", 4)]) kp_L rfl nd (fi_zip rfl T.b_zip (fa_cons (fe_var 0) (fa_cons (fe_var 1) fa_nil))) (blkOk_by (N := N_unlinked) (sc := defScope s_unlinked) (by decide +kernel)) (by decide) (fun s2 H2 C2 cl2 fp2 => (fg_tup rfl (fgs_cons (fg_tup rfl (fgs_cons (fg_name (i := 3) nd rfl (by first | exact Or.inl rfl | exact Or.inr rfl)) (fgs_cons (fg_name (i := 4) nd rfl (by first | exact Or.inl rfl | exact Or.inr rfl)) fgs_nil))) (fgs_cons (fg_name (i := 5) nd rfl (by first | exact Or.inl rfl | exact Or.inr rfl)) fgs_nil)))) (fun s2 H2 C2 cl2 fp2 => pts_no rfl) (fun s2 H2 C2 cl2 fp2 => (fe_ite (FW.ft (fw_and (ft_val (fe_callD (ok_is_link T) (fun z => nomatch z) (hr.mono (by decide)) rfl tk0 (fa_cons (fe_var 4) fa_nil))) (fw_and1 (ft_cmp (of_eq (hu64 hr)) (fe_var 5) (fe_var 2) (by rfl))))) fe_non (fe_var 5)))) fa_nil))))
abbrev N_dropped : List Str := ["plain", "number", "schema", "limit", "objects", "forms", "cls", "form", "rows", "other", "values"]
theorem sc_dropped : FnScope ["plain", "number", "schema", "limit", "objects", "forms", "cls", "form", "rows", "other", "values"] ["plain", "number"] (defScope s_dropped) := ⟨rfl, rfl, rfl, by decide +kernel, rfl, by decide +kernel, by decide +kernel⟩
theorem ok_dropped (T : Tx w K mg base) : GAt false P w K mg base 4 "dropped" s_dropped ["plain", "number"] g_dropped := g_at T.d_dropped sc_dropped fun f cd A outer s H E hcd hG hr => by
    have nd := sc_dropped.nd
    exact (fss_cons (fs_expr (fe_callD (ok_check_number T) (fun z => nomatch z) (hr.mono (by decide)) rfl (takes_of rfl rfl rfl rfl) (fa_cons (fe_var 0) (fa_cons (fe_var 1) fa_nil))))
      (fss_cons (fs_asg (fe_var 0) (fg_tup rfl (fgs_cons (fg_name (i := 2) nd rfl (by first | exact Or.inl rfl | exact Or.inr rfl)) (fgs_cons (fg_name (i := 3) nd rfl (by first | exact Or.inl rfl | exact Or.inr rfl)) (fgs_cons (fg_name (i := 4) nd rfl (by first | exact Or.inl rfl | exact Or.inr rfl)) fgs_nil)))))
      (fss_cons (fs_set (i := 5) nd rfl (by first | exact Or.inl rfl | exact Or.inr rfl) (fe_dc (own := [("cls", 6), ("form", 7)]) rfl nd (fi_seq (fe_var 2)) (blkOk_by (N := N_dropped) (sc := defScope s_dropped) (by decide +kernel)) (by decide) (fun s2 H2 C2 cl2 fp2 => (fg_tup rfl (fgs_cons (fg_name (i := 6) nd rfl (by first | exact Or.inl rfl | exact Or.inr rfl)) (fgs_cons (fg_name (i := 7) nd rfl (by first | exact Or.inl rfl | exact Or.inr rfl)) fgs_nil)))) (fun s2 H2 C2 cl2 fp2 => pts_no rfl) (fun s2 H2 C2 cl2 fp2 => (fe_var 6)) (fun s2 H2 C2 cl2 fp2 => (fe_var 7))))
      (fss_cons (fs_setLc (i := 8) rfl rfl rfl rfl rfl (own := [("other", 9), ("cls", 6), ("values", 10)]) kp_L rfl nd (fi_seq (fe_var 4)) (blkOk_by (N := N_dropped) (sc := defScope s_dropped) (by decide +kernel)) (by decide) (fun s2 H2 C2 cl2 fp2 => (fg_tup rfl (fgs_cons (fg_name (i := 9) nd rfl (by first | exact Or.inl rfl | exact Or.inr rfl)) (fgs_cons (fg_name (i := 6) nd rfl (by first | exact Or.inl rfl | exact Or.inr rfl)) (fgs_cons (fg_name (i := 10) nd rfl (by first | exact Or.inl rfl | exact Or.inr rfl)) fgs_nil))))) (fun s2 H2 C2 cl2 fp2 => pts_if (ft_cmp (of_ne (hu64 hr)) (fe_var 9) (fe_var 1) (by rfl))) (fun s2 H2 C2 cl2 fp2 => (fe_tup (fa_cons (fe_var 9) (fa_cons (fe_var 6) (fa_cons (fe_callD (ok_unlinked T) (fun z => nomatch z) (hr.mono (by decide)) rfl tk0 (fa_cons (fe_dget (hu1 hr) (fe_var 5) (fe_var 6) (by intro _ _; rfl)) (fa_cons (fe_var 10) (fa_cons (fe_var 1) fa_nil)))) fa_nil))))))
      (fss_one (fs_ret (fe_tup (fa_cons (fe_var 2) (fa_cons (fe_var 3) (fa_cons (fe_callT cf_tuple rfl T.b_tuple bo_tuple (fa_cons (fe_var 8) fa_nil)) fa_nil))))))))))
abbrev N_law_some_item : List Str := ["_law_feed_here", "_law_house_here", "_law_some", "_law_n", "_law_own", "_law_lots"]
theorem sc_law_some_item : FnScope ["_law_feed_here", "_law_house_here", "_law_some", "_law_n", "_law_own", "_law_lots"] ["_law_feed_here", "_law_house_here"] (defScope s_law_some_item) := ⟨rfl, rfl, rfl, by decide +kernel, rfl, by decide +kernel, by decide +kernel⟩
theorem ok_law_some_item (T : Tx w K mg base) : GAt false P w K mg base 3 "_law_some_item" s_law_some_item ["_law_feed_here", "_law_house_here"] g_law_some_item := g_at T.d_law_some_item sc_law_some_item fun f cd A outer s H E hcd hG hr => by
    have nd := sc_law_some_item.nd
    exact (fss_cons (fs_setLc (i := 2) rfl rfl rfl rfl rfl (own := [("_law_n", 3), ("_law_own", 4), ("_law_lots", 5)]) kp_L rfl nd (fi_seq (fe_ix (fe_var 1) fe_int (by intro _ _; rfl))) (blkOk_by (N := N_law_some_item) (sc := defScope s_law_some_item) (by decide +kernel)) (by decide) (fun s2 H2 C2 cl2 fp2 => (fg_tup rfl (fgs_cons (fg_name (i := 3) nd rfl (by first | exact Or.inl rfl | exact Or.inr rfl)) (fgs_cons (fg_name (i := 4) nd rfl (by first | exact Or.inl rfl | exact Or.inr rfl)) (fgs_cons (fg_name (i := 5) nd rfl (by first | exact Or.inl rfl | exact Or.inr rfl)) fgs_nil))))) (fun s2 H2 C2 cl2 fp2 => pts_no rfl) (fun s2 H2 C2 cl2 fp2 => (fe_var 3)))
      (fss_one (fs_ret (fe_callD (ok_law_any T) (fun z => nomatch z) (hr.mono (by decide)) rfl (takes_of rfl rfl rfl rfl) (fa_cons (fe_var 0) (fa_cons (fe_bin (of_add mk_L) (fe_bin (of_add mk_L) (fe_lst (fa_cons fe_int (fa_cons fe_int (fa_cons fe_int (fa_cons fe_int (fa_cons fe_int (fa_cons (fe_un of_neg fe_int) (fa_cons fe_non (fa_cons fe_non (fa_cons fe_bl (fa_cons fe_str (fa_cons (fe_ix (fe_var 1) fe_int (by intro _ _; rfl)) (fa_cons (fe_bin of_pow fe_int fe_int) fa_nil))))))))))))) (fe_var 2)) (fe_var 2)) fa_nil))))))
abbrev N_law_some_lots : List Str := ["_law_feed_here", "_law_house_here", "_law_own", "_law_members", "_law_n", "_law_some", "_law_lots", "_law_which", "_law_at", "_law_ways"]
theorem sc_law_some_lots : FnScope ["_law_feed_here", "_law_house_here", "_law_own", "_law_members", "_law_n", "_law_some", "_law_lots", "_law_which", "_law_at", "_law_ways"] ["_law_feed_here", "_law_house_here", "_law_own"] (defScope s_law_some_lots) := ⟨rfl, rfl, rfl, by decide +kernel, rfl, by decide +kernel, by decide +kernel⟩
theorem ok_law_some_lots (T : Tx w K mg base) : GAt false P w K mg base 5 "_law_some_lots" s_law_some_lots ["_law_feed_here", "_law_house_here", "_law_own"] g_law_some_lots := g_at T.d_law_some_lots sc_law_some_lots fun f cd A outer s H E hcd hG hr => by
    have nd := sc_law_some_lots.nd
    exact (fss_cons (fs_setLc (i := 3) rfl rfl rfl rfl rfl (own := [("_law_n", 4), ("_law_some", 5), ("_law_lots", 6)]) kp_L rfl nd (fi_seq (fe_ix (fe_var 1) fe_int (by intro _ _; rfl))) (blkOk_by (N := N_law_some_lots) (sc := defScope s_law_some_lots) (by decide +kernel)) (by decide) (fun s2 H2 C2 cl2 fp2 => (fg_tup rfl (fgs_cons (fg_name (i := 4) nd rfl (by first | exact Or.inl rfl | exact Or.inr rfl)) (fgs_cons (fg_name (i := 5) nd rfl (by first | exact Or.inl rfl | exact Or.inr rfl)) (fgs_cons (fg_name (i := 6) nd rfl (by first | exact Or.inl rfl | exact Or.inr rfl)) fgs_nil))))) (fun s2 H2 C2 cl2 fp2 => pts_no rfl) (fun s2 H2 C2 cl2 fp2 => (fe_tup (fa_cons (fe_var 4) (fa_cons (fe_var 5) fa_nil)))))
      (fss_cons (fs_set (i := 6) nd rfl (by first | exact Or.inl rfl | exact Or.inr rfl) (fe_callD (ok_law_values T) (fun z => nomatch z) (hr.mono (by decide)) rfl (takes_of rfl rfl rfl rfl) (fa_cons (fe_var 0) (fa_cons (fe_get2 (hu1 hr) (fe_callT (cf_dict rfl) rfl T.b_dict bo_dict (fa_cons (fe_ix (fe_var 1) fe_int (by intro _ _; rfl)) fa_nil)) (fe_var 2) (fe_tup fa_nil) ⟨rfl, rfl, rfl, rfl⟩) (fa_cons (fe_var 3) fa_nil)))))
      (fss_cons (fs_set (i := 7) nd rfl (by first | exact Or.inl rfl | exact Or.inr rfl) (fe_callD (ok_law_draw T) (fun z => nomatch z) (hr.mono (by decide)) rfl (takes_of rfl rfl rfl rfl) (fa_cons (fe_var 0) (fa_cons fe_int fa_nil))))
      (fss_cons (fs_if (FW.ft (fw_or (ft_cmp of_lt (fe_var 7) fe_int (by rfl)) (fw_or1 (ft_cmp (of_eq (hu64 hr)) (fe_var 6) (fe_tup fa_nil) (by rfl))))) (fss_one (fs_ret (fe_ite (ft_cmp (of_eq (hu64 hr)) (fe_var 7) fe_int (by rfl)) (fe_bin (of_add mk_L) (fe_var 6) (fe_tup (fa_cons fe_int fa_nil))) (fe_var 6)))) fss_nil)
      (fss_cons (fs_set (i := 8) nd rfl (by first | exact Or.inl rfl | exact Or.inr rfl) (fe_callD (ok_law_draw T) (fun z => nomatch z) (hr.mono (by decide)) rfl (takes_of rfl rfl rfl rfl) (fa_cons (fe_var 0) (fa_cons (fe_callB cf_len rfl T.b_len bo_len (fa_cons (fe_var 6) fa_nil)) fa_nil))))
      (fss_cons (fs_set (i := 9) nd rfl (by first | exact Or.inl rfl | exact Or.inr rfl) (fe_new (fa_cons (fe_slice (fe_var 6) fo_none (fo_some (fe_var 8))) (fa_cons (fe_bin (of_add mk_L) (fe_var 6) (fe_slice (fe_var 6) (fo_some (fe_un of_neg fe_int)) fo_none)) fa_nil))))
      (fss_cons (fs_expr (fe_append ⟨rfl, rfl, rfl, rfl, rfl⟩ (fe_var 9) (fa_cons (fe_bin (of_add mk_L) (fe_bin (of_add mk_L) (fe_slice (fe_var 6) fo_none (fo_some (fe_var 8))) (fe_tup (fa_cons (fe_callD (ok_law_some_item T) (fun z => nomatch z) (hr.mono (by decide)) rfl (takes_of rfl rfl rfl rfl) (fa_cons (fe_var 0) (fa_cons (fe_var 1) fa_nil))) fa_nil))) (fe_slice (fe_var 6) (fo_some (fe_bin (of_add mk_L) (fe_var 8) fe_int)) fo_none)) fa_nil)))
      (fss_frz 9 (fss_one (fs_ret (fe_ix (fe_var 9) (fe_bin of_sub (fe_var 7) fe_int) (by intro _ _; rfl))))))))))))
abbrev N_law_is_integer : List Str := ["_law_item"]
theorem sc_law_is_integer : FnScope ["_law_item"] ["_law_item"] (defScope s_law_is_integer) := ⟨rfl, rfl, rfl, by decide +kernel, rfl, by decide +kernel, by decide +kernel⟩
theorem ok_law_is_integer (T : Tx w K mg base) : GAt false P w K mg base 1 "_law_is_integer" s_law_is_integer ["_law_item"] g_law_is_integer := g_at T.d_law_is_integer sc_law_is_integer fun f cd A outer s H E hcd hG hr => by
    have nd := sc_law_is_integer.nd
    exact (fss_one (fs_ret (fe_and (fe_isi (T := "int") rfl (by decide) rfl T.b_isinstance rfl T.b_int bo_int bo_isinstance (fe_var 0)) (fe_one (fe_not (fe_isi (T := "bool") rfl (by decide) rfl T.b_isinstance rfl T.b_bool bo_bool bo_isinstance (fe_var 0)))))))
abbrev N_law_suits : List Str := ["_law_house_here", "_law_sort", "_law_item", "_law_members", "_law_n", "_law_own", "_law_lots"]
theorem sc_law_suits : FnScope ["_law_house_here", "_law_sort", "_law_item", "_law_members", "_law_n", "_law_own", "_law_lots"] ["_law_house_here", "_law_sort", "_law_item"] (defScope s_law_suits) := ⟨rfl, rfl, rfl, by decide +kernel, rfl, by decide +kernel, by decide +kernel⟩
theorem ok_law_suits (T : Tx w K mg base) : GAt false P w K mg base 2 "_law_suits" s_law_suits ["_law_house_here", "_law_sort", "_law_item"] g_law_suits := g_at T.d_law_suits sc_law_suits fun f cd A outer s H E hcd hG hr => by
    have nd := sc_law_suits.nd
    exact (fss_cons (fs_if (ft_val (fe_isi (T := "tuple") rfl (by decide) rfl T.b_isinstance rfl T.b_tuple bo_tuple bo_isinstance (fe_var 1))) (fss_one (fs_ret (fe_and (fe_callD (ok_law_is_integer T) (fun z => nomatch z) (hr.mono (by decide)) rfl (takes_of rfl rfl rfl rfl) (fa_cons (fe_var 2) fa_nil)) (fe_one (fe_chain of_le of_le (fe_ix (fe_var 1) fe_int (by intro _ _; rfl)) (fe_var 2) (fe_ix (fe_var 1) fe_int (by intro _ _; rfl))))))) fss_nil)
      (fss_cons (fs_setLc (i := 3) rfl rfl rfl rfl rfl (own := [("_law_n", 4), ("_law_own", 5), ("_law_lots", 6)]) kp_L rfl nd (fi_seq (fe_ix (fe_var 0) fe_int (by intro _ _; rfl))) (blkOk_by (N := N_law_suits) (sc := defScope s_law_suits) (by decide +kernel)) (by decide) (fun s2 H2 C2 cl2 fp2 => (fg_tup rfl (fgs_cons (fg_name (i := 4) nd rfl (by first | exact Or.inl rfl | exact Or.inr rfl)) (fgs_cons (fg_name (i := 5) nd rfl (by first | exact Or.inl rfl | exact Or.inr rfl)) (fgs_cons (fg_name (i := 6) nd rfl (by first | exact Or.inl rfl | exact Or.inr rfl)) fgs_nil))))) (fun s2 H2 C2 cl2 fp2 => pts_no rfl) (fun s2 H2 C2 cl2 fp2 => (fe_tup (fa_cons (fe_var 4) (fa_cons (fe_var 5) fa_nil)))))
      (fss_one (fs_ret (fe_or (fe_cmp of_is (fe_var 2) fe_non (by rfl)) (fe_one (fe_and (fe_callD (ok_law_is_integer T) (fun z => nomatch z) (hr.mono (by decide)) rfl (takes_of rfl rfl rfl rfl) (fa_cons (fe_var 2) fa_nil)) (fe_one (fe_cmp (of_ind (hu65 hr)) (fe_tup (fa_cons (fe_var 2) (fa_cons (fe_var 1) fa_nil))) (fe_var 3) (by rfl))))))))))
abbrev N_law_made_due : List Str := ["_law_house_here", "_law_own", "_law_lots", "_law_some", "_law_lot_here", "_law_wrong", "_law_k"]
theorem sc_law_made_due : FnScope ["_law_house_here", "_law_own", "_law_lots", "_law_some", "_law_lot_here", "_law_wrong", "_law_k"] ["_law_house_here", "_law_own", "_law_lots"] (defScope s_law_made_due) := ⟨rfl, rfl, rfl, by decide +kernel, rfl, by decide +kernel, by decide +kernel⟩
theorem ok_law_made_due (T : Tx w K mg base) : GAt true P w K mg base 3 "_law_made_due" s_law_made_due ["_law_house_here", "_law_own", "_law_lots"] g_law_made_due := g_at T.d_law_made_due sc_law_made_due fun f cd A outer s H E hcd hG hr => by
    have nd := sc_law_made_due.nd
    exact (fss_cons (fs_if (ft_cmp of_notin (fe_callB (cf_repr (hG rfl) (hu66 hr)) rfl T.b_repr bo_repr (fa_cons (fe_var 1) fa_nil)) (fe_lc (own := [("_law_some", 3), ("_law_lot_here", 4)]) kp_L rfl nd (fi_seq (fe_ix (fe_var 0) fe_int (by intro _ _; rfl))) (blkOk_by (N := N_law_made_due) (sc := defScope s_law_made_due) (by decide +kernel)) (by decide) (fun s2 H2 C2 cl2 fp2 => (fg_tup rfl (fgs_cons (fg_name (i := 3) nd rfl (by first | exact Or.inl rfl | exact Or.inr rfl)) (fgs_cons (fg_name (i := 4) nd rfl (by first | exact Or.inl rfl | exact Or.inr rfl)) fgs_nil)))) (fun s2 H2 C2 cl2 fp2 => pts_no rfl) (fun s2 H2 C2 cl2 fp2 => (fe_callB (cf_repr (hG rfl) (hu66 hr)) rfl T.b_repr bo_repr (fa_cons (fe_var 3) fa_nil)))) (by rfl)) (fss_one (fs_ret (fe_tup (fa_cons fe_str (fa_cons (fe_tup (fa_cons fe_str (fa_cons (fe_var 1) (fa_cons (fe_var 2) fa_nil)))) (fa_cons fe_str fa_nil)))))) fss_nil)
      (fss_cons (fs_set (i := 4) nd rfl (by first | exact Or.inl rfl | exact Or.inr rfl) (fe_dget (hu1 hr) (fe_callT (cf_dict rfl) rfl T.b_dict bo_dict (fa_cons (fe_ix (fe_var 0) fe_int (by intro _ _; rfl)) fa_nil)) (fe_var 1) (by intro _ _; rfl)))
      (fss_cons (fs_setLc (i := 5) rfl rfl rfl rfl rfl (own := [("_law_k", 6)]) kp_L rfl nd (fi_range1 rfl T.b_range (fa_cons (fe_callB (cf_min rfl) rfl T.b_min bo_min (fa_cons (fe_callB cf_len rfl T.b_len bo_len (fa_cons (fe_var 4) fa_nil)) (fa_cons (fe_callB cf_len rfl T.b_len bo_len (fa_cons (fe_var 2) fa_nil)) fa_nil))) fa_nil)) (blkOk_by (N := N_law_made_due) (sc := defScope s_law_made_due) (by decide +kernel)) (by decide) (fun s2 H2 C2 cl2 fp2 => (fg_name (i := 6) nd rfl (by first | exact Or.inl rfl | exact Or.inr rfl))) (fun s2 H2 C2 cl2 fp2 => pts_if (ft_not (ft_val (fe_callD (ok_law_suits T) (fun z => nomatch z) (hr.mono (by decide)) rfl tk0 (fa_cons (fe_var 0) (fa_cons (fe_ix (fe_ix (fe_var 4) (fe_var 6) (by intro _ _; rfl)) fe_int (by intro _ _; rfl)) (fa_cons (fe_ix (fe_var 2) (fe_var 6) (by intro _ _; rfl)) fa_nil))))))) (fun s2 H2 C2 cl2 fp2 => (fe_var 6)))
      (fss_cons (fs_if (FW.ft (fw_or (ft_cmp (of_ne (hu64 hr)) (fe_callB cf_len rfl T.b_len bo_len (fa_cons (fe_var 4) fa_nil)) (fe_callB cf_len rfl T.b_len bo_len (fa_cons (fe_var 2) fa_nil)) (by rfl)) (fw_or1 (ft_cmp (of_ne (hu64 hr)) (fe_var 5) (fe_lst fa_nil) (by rfl))))) (fss_one (fs_ret (fe_tup (fa_cons fe_str (fa_cons (fe_tup (fa_cons fe_str (fa_cons (fe_var 1) (fa_cons (fe_var 2) fa_nil)))) (fa_cons fe_str fa_nil)))))) fss_nil)
      (fss_one (fs_ret (fe_tup (fa_cons fe_str (fa_cons (fe_tup (fa_cons (fe_ix (fe_var 0) fe_int (by intro _ _; rfl)) (fa_cons (fe_bin (of_add mk_L) (fe_ix (fe_var 0) fe_int (by intro _ _; rfl)) fe_int) (fa_cons (fe_bin (of_add mk_L) (fe_ix (fe_var 0) fe_int (by intro _ _; rfl)) (fe_tup (fa_cons (fe_tup (fa_cons (fe_ix (fe_var 0) fe_int (by intro _ _; rfl)) (fa_cons (fe_var 1) (fa_cons (fe_var 2) fa_nil)))) fa_nil))) fa_nil)))) fa_nil)))))))))
abbrev N_form_of : List Str := ["schema", "cls", "name", "form"]
theorem sc_form_of : FnScope ["schema", "cls", "name", "form"] ["schema", "cls"] (defScope s_form_of) := ⟨rfl, rfl, rfl, by decide +kernel, rfl, by decide +kernel, by decide +kernel⟩
theorem ok_form_of (T : Tx w K mg base) : GAt false P w K mg base 1 "form_of" s_form_of ["schema", "cls"] g_form_of := g_at T.d_form_of sc_form_of fun f cd A outer s H E hcd hG hr => by
    have nd := sc_form_of.nd
    exact (fss_cons (fs_for (passes_of rfl) rfl (fi_seq (fe_var 0)) (fg_tup rfl (fgs_cons (fg_name (i := 2) nd rfl (by first | exact Or.inl rfl | exact Or.inr rfl)) (fgs_cons (fg_name (i := 3) nd rfl (by first | exact Or.inl rfl | exact Or.inr rfl)) fgs_nil))) (fss_one (fs_if (ft_cmp (of_eq (hu64 hr)) (fe_var 2) (fe_var 1) (by rfl)) (fss_one (fs_ret (fe_var 3))) fss_nil)))
      (fss_one (fs_ret fe_non)))
abbrev N_in_range : List Str := ["kind", "value"]
theorem sc_in_range : FnScope ["kind", "value"] ["kind", "value"] (defScope s_in_range) := ⟨rfl, rfl, rfl, by decide +kernel, rfl, by decide +kernel, by decide +kernel⟩
theorem ok_in_range (T : Tx w K mg base) : GAt false P w K mg base 2 "in_range" s_in_range ["kind", "value"] g_in_range := g_at T.d_in_range sc_in_range fun f cd A outer s H E hcd hG hr => by
    have nd := sc_in_range.nd
    exact (fss_one (fs_ret (fe_and (fe_callD (ok_is_integer T) (fun z => nomatch z) (hr.mono (by decide)) rfl (takes_of rfl rfl rfl rfl) (fa_cons (fe_var 1) fa_nil)) (fe_one (fe_chain of_le of_le (fe_ix (fe_var 0) fe_int (by intro _ _; rfl)) (fe_var 1) (fe_ix (fe_var 0) fe_int (by intro _ _; rfl)))))))
abbrev N_is_number : List Str := ["thing"]
theorem sc_is_number : FnScope ["thing"] ["thing"] (defScope s_is_number) := ⟨rfl, rfl, rfl, by decide +kernel, rfl, by decide +kernel, by decide +kernel⟩
theorem ok_is_number (T : Tx w K mg base) : GAt false P w K mg base 2 "is_number" s_is_number ["thing"] g_is_number := g_at T.d_is_number sc_is_number fun f cd A outer s H E hcd hG hr => by
    have nd := sc_is_number.nd
    exact (fss_one (fs_ret (fe_and (fe_callD (ok_is_integer T) (fun z => nomatch z) (hr.mono (by decide)) rfl (takes_of rfl rfl rfl rfl) (fa_cons (fe_var 0) fa_nil)) (fe_one (fe_cmp of_ge (fe_var 0) fe_int (by rfl))))))
abbrev N_suits : List Str := ["kind", "value", "classes"]
theorem sc_suits : FnScope ["kind", "value", "classes"] ["kind", "value", "classes"] (defScope s_suits) := ⟨rfl, rfl, rfl, by decide +kernel, rfl, by decide +kernel, by decide +kernel⟩
theorem ok_suits (T : Tx w K mg base) : GAt false P w K mg base 3 "suits" s_suits ["kind", "value", "classes"] g_suits := g_at T.d_suits sc_suits fun f cd A outer s H E hcd hG hr => by
    have nd := sc_suits.nd
    exact (fss_cons (fs_if (ft_not (ft_val (fe_callD (ok_is_link T) (fun z => nomatch z) (hr.mono (by decide)) rfl (takes_of rfl rfl rfl rfl) (fa_cons (fe_var 0) fa_nil)))) (fss_one (fs_ret (fe_callD (ok_in_range T) (fun z => nomatch z) (hr.mono (by decide)) rfl (takes_of rfl rfl rfl rfl) (fa_cons (fe_var 0) (fa_cons (fe_var 1) fa_nil))))) fss_nil)
      (fss_one (fs_ret (fe_or (fe_cmp of_is (fe_var 1) fe_non (by rfl)) (fe_one (fe_and (fe_callD (ok_is_number T) (fun z => nomatch z) (hr.mono (by decide)) rfl (takes_of rfl rfl rfl rfl) (fa_cons (fe_var 1) fa_nil)) (fe_one (fe_cmp (of_eq (hu64 hr)) (fe_get1 (hu1 hr) (fe_var 2) (fe_var 1) ⟨rfl, rfl, rfl, rfl⟩) (fe_var 0) (by rfl)))))))))
abbrev N_all_suit : List Str := ["form", "values", "classes", "_", "kind", "value"]
theorem sc_all_suit : FnScope ["form", "values", "classes", "_", "kind", "value"] ["form", "values", "classes"] (defScope s_all_suit) := ⟨rfl, rfl, rfl, by decide +kernel, rfl, by decide +kernel, by decide +kernel⟩
theorem ok_all_suit (T : Tx w K mg base) : GAt false P w K mg base 4 "all_suit" s_all_suit ["form", "values", "classes"] g_all_suit := g_at T.d_all_suit sc_all_suit fun f cd A outer s H E hcd hG hr => by
    have nd := sc_all_suit.nd
    exact (fss_cons (fs_if (ft_cmp (of_ne (hu64 hr)) (fe_callB cf_len rfl T.b_len bo_len (fa_cons (fe_var 1) fa_nil)) (fe_callB cf_len rfl T.b_len bo_len (fa_cons (fe_var 0) fa_nil)) (by rfl)) (fss_one (fs_ret fe_bl)) fss_nil)
      (fss_one (fs_ret (fe_callB (cf_all rfl) rfl T.b_all bo_all (fa_cons (fe_lc (own := [("value", 5), ("_", 3), ("kind", 4)]) kp_L rfl nd (fi_zip rfl T.b_zip (fa_cons (fe_var 0) (fa_cons (fe_var 1) fa_nil))) (blkOk_by (N := N_all_suit) (sc := defScope s_all_suit) (by decide +kernel)) (by decide) (fun s2 H2 C2 cl2 fp2 => (fg_tup rfl (fgs_cons (fg_tup rfl (fgs_cons (fg_name (i := 3) nd rfl (by first | exact Or.inl rfl | exact Or.inr rfl)) (fgs_cons (fg_name (i := 4) nd rfl (by first | exact Or.inl rfl | exact Or.inr rfl)) fgs_nil))) (fgs_cons (fg_name (i := 5) nd rfl (by first | exact Or.inl rfl | exact Or.inr rfl)) fgs_nil)))) (fun s2 H2 C2 cl2 fp2 => pts_no rfl) (fun s2 H2 C2 cl2 fp2 => (fe_callD (ok_suits T) (fun z => nomatch z) (hr.mono (by decide)) rfl tk0 (fa_cons (fe_var 4) (fa_cons (fe_var 5) (fa_cons (fe_var 2) fa_nil)))))) fa_nil)))))
abbrev N_made_by : List Str := ["plain", "step", "schema", "limit", "objects", "_", "cls", "values", "form"]
theorem sc_made_by : FnScope ["plain", "step", "schema", "limit", "objects", "_", "cls", "values", "form"] ["plain", "step"] (defScope s_made_by) := ⟨rfl, rfl, rfl, by decide +kernel, rfl, by decide +kernel, by decide +kernel⟩
theorem ok_made_by (T : Tx w K mg base) : GAt false P w K mg base 5 "made_by" s_made_by ["plain", "step"] g_made_by := g_at T.d_made_by sc_made_by fun f cd A outer s H E hcd hG hr => by
    have nd := sc_made_by.nd
    exact (fss_cons (fs_asg (fe_var 0) (fg_tup rfl (fgs_cons (fg_name (i := 2) nd rfl (by first | exact Or.inl rfl | exact Or.inr rfl)) (fgs_cons (fg_name (i := 3) nd rfl (by first | exact Or.inl rfl | exact Or.inr rfl)) (fgs_cons (fg_name (i := 4) nd rfl (by first | exact Or.inl rfl | exact Or.inr rfl)) fgs_nil)))))
      (fss_cons (fs_asg (fe_var 1) (fg_tup rfl (fgs_cons (fg_name (i := 5) nd rfl (by first | exact Or.inl rfl | exact Or.inr rfl)) (fgs_cons (fg_name (i := 6) nd rfl (by first | exact Or.inl rfl | exact Or.inr rfl)) (fgs_cons (fg_name (i := 7) nd rfl (by first | exact Or.inl rfl | exact Or.inr rfl)) fgs_nil)))))
      (fss_cons (fs_set (i := 8) nd rfl (by first | exact Or.inl rfl | exact Or.inr rfl) (fe_callD (ok_form_of T) (fun z => nomatch z) (hr.mono (by decide)) rfl (takes_of rfl rfl rfl rfl) (fa_cons (fe_var 2) (fa_cons (fe_var 6) fa_nil))))
      (fss_cons (fs_if (ft_cmp of_is (fe_var 8) fe_non (by rfl)) (fss_one (fs_raise2 (x := "InvalidStep") (f := "step") (g := "word") (k := 0) T.x_InvalidStep rfl (takes_of rfl rfl rfl rfl) (hr.mono (by decide)) rfl (fa_cons (fe_var 1) (fa_cons fe_str fa_nil)))) fss_nil)
      (fss_cons (fs_if (ft_not (ft_val (fe_callD (ok_all_suit T) (fun z => nomatch z) (hr.mono (by decide)) rfl (takes_of rfl rfl rfl rfl) (fa_cons (fe_var 8) (fa_cons (fe_var 7) (fa_cons (fe_callD (ok_classes_of T) (fun z => nomatch z) (hr.mono (by decide)) rfl (takes_of rfl rfl rfl rfl) (fa_cons (fe_var 0) fa_nil)) fa_nil)))))) (fss_one (fs_raise2 (x := "InvalidStep") (f := "step") (g := "word") (k := 0) T.x_InvalidStep rfl (takes_of rfl rfl rfl rfl) (hr.mono (by decide)) rfl (fa_cons (fe_var 1) (fa_cons fe_str fa_nil)))) fss_nil)
      (fss_one (fs_ret (fe_tup (fa_cons (fe_var 2) (fa_cons (fe_bin (of_add mk_L) (fe_var 3) fe_int) (fa_cons (fe_tup (fa_star (fe_var 4) (fa_cons (fe_tup (fa_cons (fe_var 3) (fa_cons (fe_var 6) (fa_cons (fe_var 7) fa_nil)))) fa_nil))) fa_nil)))))))))))
abbrev N_made : List Str := ["plain", "cls", "values"]
theorem sc_made : FnScope ["plain", "cls", "values"] ((["plain", "cls"] : List Str) ++ (["values"] : List Str)) (defScope s_made) := ⟨rfl, rfl, rfl, by decide +kernel, rfl, by decide +kernel, by decide +kernel⟩
theorem ok_made (T : Tx w K mg base) : SAt false P w K mg base 6 "made" 2 g_made := s_at T.d_made sc_made fun f cd A outer s H E hcd hG hr => by
    have nd := sc_made.nd
    exact (fss_one (fs_ret (fe_callD (ok_made_by T) (fun z => nomatch z) (hr.mono (by decide)) rfl (takes_of rfl rfl rfl rfl) (fa_cons (fe_var 0) (fa_cons (fe_tup (fa_cons fe_str (fa_cons (fe_var 1) (fa_cons (fe_var 2) fa_nil)))) fa_nil)))))
abbrev N_law_make : List Str := ["_law_house_here", "_law_own", "_law_lots"]
theorem sc_law_make : FnScope ["_law_house_here", "_law_own", "_law_lots"] ["_law_house_here", "_law_own", "_law_lots"] (defScope s_law_make) := ⟨rfl, rfl, rfl, by decide +kernel, rfl, by decide +kernel, by decide +kernel⟩
theorem ok_law_make (T : Tx w K mg base) : GAt false P w K mg base 7 "_law_make" s_law_make ["_law_house_here", "_law_own", "_law_lots"] g_law_make := g_at T.d_law_make sc_law_make fun f cd A outer s H E hcd hG hr => by
    have nd := sc_law_make.nd
    exact (fss_cons (fs_if (ft_cmp (of_eq (hu64 hr)) (fe_var 2) (fe_tup fa_nil) (by rfl)) (fss_one (fs_ret (fe_callS (ok_made T) (fun z => nomatch z) (hr.mono (by decide)) rfl (takes_of rfl rfl rfl rfl) (fa_cons (fe_var 0) (fa_cons (fe_var 1) fa_nil))))) fss_nil)
      (fss_cons (fs_if (ft_cmp (of_eq (hu64 hr)) (fe_callB cf_len rfl T.b_len bo_len (fa_cons (fe_var 2) fa_nil)) fe_int (by rfl)) (fss_one (fs_ret (fe_callS (ok_made T) (fun z => nomatch z) (hr.mono (by decide)) rfl (takes_of rfl rfl rfl rfl) (fa_cons (fe_var 0) (fa_cons (fe_var 1) (fa_cons (fe_ix (fe_var 2) fe_int (by intro _ _; rfl)) fa_nil)))))) fss_nil)
      (fss_cons (fs_if (ft_cmp (of_eq (hu64 hr)) (fe_callB cf_len rfl T.b_len bo_len (fa_cons (fe_var 2) fa_nil)) fe_int (by rfl)) (fss_one (fs_ret (fe_callS (ok_made T) (fun z => nomatch z) (hr.mono (by decide)) rfl (takes_of rfl rfl rfl rfl) (fa_cons (fe_var 0) (fa_cons (fe_var 1) (fa_cons (fe_ix (fe_var 2) fe_int (by intro _ _; rfl)) (fa_cons (fe_ix (fe_var 2) fe_int (by intro _ _; rfl)) fa_nil))))))) fss_nil)
      (fss_cons (fs_if (ft_cmp (of_eq (hu64 hr)) (fe_callB cf_len rfl T.b_len bo_len (fa_cons (fe_var 2) fa_nil)) fe_int (by rfl)) (fss_one (fs_ret (fe_callS (ok_made T) (fun z => nomatch z) (hr.mono (by decide)) rfl (takes_of rfl rfl rfl rfl) (fa_cons (fe_var 0) (fa_cons (fe_var 1) (fa_cons (fe_ix (fe_var 2) fe_int (by intro _ _; rfl)) (fa_cons (fe_ix (fe_var 2) fe_int (by intro _ _; rfl)) (fa_cons (fe_ix (fe_var 2) fe_int (by intro _ _; rfl)) fa_nil)))))))) fss_nil)
      (fss_cons (fs_if (ft_cmp (of_eq (hu64 hr)) (fe_callB cf_len rfl T.b_len bo_len (fa_cons (fe_var 2) fa_nil)) fe_int (by rfl)) (fss_one (fs_ret (fe_callS (ok_made T) (fun z => nomatch z) (hr.mono (by decide)) rfl (takes_of rfl rfl rfl rfl) (fa_cons (fe_var 0) (fa_cons (fe_var 1) (fa_cons (fe_ix (fe_var 2) fe_int (by intro _ _; rfl)) (fa_cons (fe_ix (fe_var 2) fe_int (by intro _ _; rfl)) (fa_cons (fe_ix (fe_var 2) fe_int (by intro _ _; rfl)) (fa_cons (fe_ix (fe_var 2) fe_int (by intro _ _; rfl)) fa_nil))))))))) fss_nil)
      (fss_one (fs_ret (fe_callS (ok_made T) (fun z => nomatch z) (hr.mono (by decide)) rfl (takes_of rfl rfl rfl rfl) (fa_cons (fe_var 0) (fa_cons (fe_var 1) (fa_cons (fe_ix (fe_var 2) fe_int (by intro _ _; rfl)) (fa_cons (fe_ix (fe_var 2) fe_int (by intro _ _; rfl)) (fa_cons (fe_ix (fe_var 2) fe_int (by intro _ _; rfl)) (fa_cons (fe_ix (fe_var 2) fe_int (by intro _ _; rfl)) (fa_cons (fe_ix (fe_var 2) fe_int (by intro _ _; rfl)) fa_nil)))))))))))))))
abbrev N_law_making_right : List Str := ["_law_feed_here", "_law_house_here", "_law_own", "_law_some", "_law_lot_here", "_law_lots"]
theorem sc_law_making_right : FnScope ["_law_feed_here", "_law_house_here", "_law_own", "_law_some", "_law_lot_here", "_law_lots"] ["_law_feed_here", "_law_house_here"] (defScope s_law_making_right) := ⟨rfl, rfl, rfl, by decide +kernel, rfl, by decide +kernel, by decide +kernel⟩
theorem ok_law_making_right (T : Tx w K mg base) : GAt true P w K mg base 10 "_law_making_right" s_law_making_right ["_law_feed_here", "_law_house_here"] g_law_making_right := g_at T.d_law_making_right sc_law_making_right fun f cd A outer s H E hcd hG hr => by
    have nd := sc_law_making_right.nd
    obtain ⟨lc, lP, lc1, lTB, lmT, lun⟩ := T.l_law_making_right
    have hcode := hcd.eq lc1
    obtain ⟨CL_LateError, CLm_LateError, CLs_LateError⟩ := T.n_LateError
    exact (fss_cons (fs_set (i := 2) nd rfl (by first | exact Or.inl rfl | exact Or.inr rfl) (fe_callD (ok_law_any T) (fun z => nomatch z) (hr.mono (by decide)) rfl (takes_of rfl rfl rfl rfl) (fa_cons (fe_var 0) (fa_cons (fe_bin (of_add mk_L) (fe_bin of_mul (fe_lc (own := [("_law_some", 3), ("_law_lot_here", 4)]) kp_L rfl nd (fi_seq (fe_ix (fe_var 1) fe_int (by intro _ _; rfl))) (blkOk_by (N := N_law_making_right) (sc := defScope s_law_making_right) (by decide +kernel)) (by decide) (fun s2 H2 C2 cl2 fp2 => (fg_tup rfl (fgs_cons (fg_name (i := 3) nd rfl (by first | exact Or.inl rfl | exact Or.inr rfl)) (fgs_cons (fg_name (i := 4) nd rfl (by first | exact Or.inl rfl | exact Or.inr rfl)) fgs_nil)))) (fun s2 H2 C2 cl2 fp2 => pts_no rfl) (fun s2 H2 C2 cl2 fp2 => (fe_var 3))) fe_int) (fe_lst (fa_cons fe_str (fa_cons fe_str (fa_cons fe_non (fa_cons fe_int fa_nil)))))) fa_nil))))
      (fss_cons (fs_set (i := 5) nd rfl (by first | exact Or.inl rfl | exact Or.inr rfl) (fe_callD (ok_law_some_lots T) (fun z => nomatch z) (hr.mono (by decide)) rfl (takes_of rfl rfl rfl rfl) (fa_cons (fe_var 0) (fa_cons (fe_var 1) (fa_cons (fe_ite (ft_val (fe_isi (T := "str") rfl (by decide) rfl T.b_isinstance rfl T.b_str bo_str bo_isinstance (fe_var 2))) (fe_var 2) fe_str) fa_nil)))))
      (fss_one (fs_ret (fe_cmp (of_eq (hu64 hr)) (fe_callB (cf_repr (hG rfl) (hu66 hr)) rfl T.b_repr bo_repr (fa_cons (fe_out (k := 7) (cl := "LateError") (en := "e") (fn := "_law_found") (tab := tabs_LateError) (qf := qf_law_outcome) (sgf := sg_law_outcome) (Ng := N_law_outcome) (ie := 2) (ifn := 1) (st := s_law_outcome) T.d_law_outcome sc_law_outcome rfl rfl rfl rfl (by decide) (by decide) rfl rfl rfl CLm_LateError (by decide) CLs_LateError (su_law_outcome T) (fun _ => rfl) (by decide) (by decide) rfl hq_law_outcome rfl lTB hcode lmT lun (hr.mono (by decide)) (LamX.lamS_by (show LamX.lamSB (defScope s_law_making_right) _ = true by decide +kernel)) rfl (fun _ _ _ _ _ => rfl) (fun A outer s H E f2 c2 hr => (fe_callD (ok_law_make T) (fun z => nomatch z) (hr.mono (by decide)) rfl (takes_of rfl rfl rfl rfl) (fa_cons (fe_var 1) (fa_cons (fe_var 2) (fa_cons (fe_var 5) fa_nil)))))) fa_nil)) (fe_callB (cf_repr (hG rfl) (hu66 hr)) rfl T.b_repr bo_repr (fa_cons (fe_callD (ok_law_made_due T) hG (hr.mono (by decide)) rfl (takes_of rfl rfl rfl rfl) (fa_cons (fe_var 1) (fa_cons (fe_var 2) (fa_cons (fe_var 5) fa_nil)))) fa_nil)) (by rfl))))))
abbrev N_law_some_number : List Str := ["_law_feed_here", "_law_house_here", "_law_some", "_law_n", "_law_own", "_law_lots"]
theorem sc_law_some_number : FnScope ["_law_feed_here", "_law_house_here", "_law_some", "_law_n", "_law_own", "_law_lots"] ["_law_feed_here", "_law_house_here"] (defScope s_law_some_number) := ⟨rfl, rfl, rfl, by decide +kernel, rfl, by decide +kernel, by decide +kernel⟩
theorem ok_law_some_number (T : Tx w K mg base) : GAt false P w K mg base 3 "_law_some_number" s_law_some_number ["_law_feed_here", "_law_house_here"] g_law_some_number := g_at T.d_law_some_number sc_law_some_number fun f cd A outer s H E hcd hG hr => by
    have nd := sc_law_some_number.nd
    exact (fss_cons (fs_setLc (i := 2) rfl rfl rfl rfl rfl (own := [("_law_n", 3), ("_law_own", 4), ("_law_lots", 5)]) kp_L rfl nd (fi_seq (fe_ix (fe_var 1) fe_int (by intro _ _; rfl))) (blkOk_by (N := N_law_some_number) (sc := defScope s_law_some_number) (by decide +kernel)) (by decide) (fun s2 H2 C2 cl2 fp2 => (fg_tup rfl (fgs_cons (fg_name (i := 3) nd rfl (by first | exact Or.inl rfl | exact Or.inr rfl)) (fgs_cons (fg_name (i := 4) nd rfl (by first | exact Or.inl rfl | exact Or.inr rfl)) (fgs_cons (fg_name (i := 5) nd rfl (by first | exact Or.inl rfl | exact Or.inr rfl)) fgs_nil))))) (fun s2 H2 C2 cl2 fp2 => pts_no rfl) (fun s2 H2 C2 cl2 fp2 => (fe_var 3)))
      (fss_one (fs_ret (fe_callD (ok_law_any T) (fun z => nomatch z) (hr.mono (by decide)) rfl (takes_of rfl rfl rfl rfl) (fa_cons (fe_var 0) (fa_cons (fe_bin (of_add mk_L) (fe_bin (of_add mk_L) (fe_var 2) (fe_var 2)) (fe_lst (fa_cons (fe_ix (fe_var 1) fe_int (by intro _ _; rfl)) (fa_cons (fe_un of_neg fe_int) (fa_cons fe_non (fa_cons fe_bl (fa_cons fe_str (fa_cons (fe_tup (fa_cons fe_int fa_nil)) fa_nil)))))))) fa_nil))))))
abbrev N_law_is_member : List Str := ["_law_house_here", "_law_item", "_law_n", "_law_own", "_law_lots"]
theorem sc_law_is_member : FnScope ["_law_house_here", "_law_item", "_law_n", "_law_own", "_law_lots"] ["_law_house_here", "_law_item"] (defScope s_law_is_member) := ⟨rfl, rfl, rfl, by decide +kernel, rfl, by decide +kernel, by decide +kernel⟩
theorem ok_law_is_member (T : Tx w K mg base) : GAt true P w K mg base 1 "_law_is_member" s_law_is_member ["_law_house_here", "_law_item"] g_law_is_member := g_at T.d_law_is_member sc_law_is_member fun f cd A outer s H E hcd hG hr => by
    have nd := sc_law_is_member.nd
    exact (fss_one (fs_ret (fe_cmp of_in (fe_callB (cf_repr (hG rfl) (hu66 hr)) rfl T.b_repr bo_repr (fa_cons (fe_var 1) fa_nil)) (fe_lc (own := [("_law_n", 2), ("_law_own", 3), ("_law_lots", 4)]) kp_L rfl nd (fi_seq (fe_ix (fe_var 0) fe_int (by intro _ _; rfl))) (blkOk_by (N := N_law_is_member) (sc := defScope s_law_is_member) (by decide +kernel)) (by decide) (fun s2 H2 C2 cl2 fp2 => (fg_tup rfl (fgs_cons (fg_name (i := 2) nd rfl (by first | exact Or.inl rfl | exact Or.inr rfl)) (fgs_cons (fg_name (i := 3) nd rfl (by first | exact Or.inl rfl | exact Or.inr rfl)) (fgs_cons (fg_name (i := 4) nd rfl (by first | exact Or.inl rfl | exact Or.inr rfl)) fgs_nil))))) (fun s2 H2 C2 cl2 fp2 => pts_no rfl) (fun s2 H2 C2 cl2 fp2 => (fe_callB (cf_repr (hG rfl) (hu66 hr)) rfl T.b_repr bo_repr (fa_cons (fe_var 2) fa_nil)))) (by rfl))))
abbrev N_law_some_label : List Str := ["_law_feed_here", "_law_house_here", "_law_n", "_law_own", "_law_m", "_law_some", "_law_lots", "_law_label", "_law_sort"]
theorem sc_law_some_label : FnScope ["_law_feed_here", "_law_house_here", "_law_n", "_law_own", "_law_m", "_law_some", "_law_lots", "_law_label", "_law_sort"] ["_law_feed_here", "_law_house_here", "_law_n"] (defScope s_law_some_label) := ⟨rfl, rfl, rfl, by decide +kernel, rfl, by decide +kernel, by decide +kernel⟩
theorem ok_law_some_label (T : Tx w K mg base) : GAt true P w K mg base 3 "_law_some_label" s_law_some_label ["_law_feed_here", "_law_house_here", "_law_n"] g_law_some_label := g_at T.d_law_some_label sc_law_some_label fun f cd A outer s H E hcd hG hr => by
    have nd := sc_law_some_label.nd
    exact (fss_cons (fs_setLc (i := 3) rfl rfl rfl rfl rfl (own := [("_law_m", 4), ("_law_some", 5), ("_law_lots", 6)]) kp_L rfl nd (fi_seq (fe_ix (fe_var 1) fe_int (by intro _ _; rfl))) (blkOk_by (N := N_law_some_label) (sc := defScope s_law_some_label) (by decide +kernel)) (by decide) (fun s2 H2 C2 cl2 fp2 => (fg_tup rfl (fgs_cons (fg_name (i := 4) nd rfl (by first | exact Or.inl rfl | exact Or.inr rfl)) (fgs_cons (fg_name (i := 5) nd rfl (by first | exact Or.inl rfl | exact Or.inr rfl)) (fgs_cons (fg_name (i := 6) nd rfl (by first | exact Or.inl rfl | exact Or.inr rfl)) fgs_nil))))) (fun s2 H2 C2 cl2 fp2 => pts_if (FW.ft (fw_and (ft_val (fe_callD (ok_law_is_member T) hG (hr.mono (by decide)) rfl tk0 (fa_cons (fe_var 1) (fa_cons (fe_var 2) fa_nil)))) (fw_and1 (ft_cmp (of_eq (hu64 hr)) (fe_var 4) (fe_var 2) (by rfl)))))) (fun s2 H2 C2 cl2 fp2 => (fe_var 5)))
      (fss_cons (fs_set (i := 5) nd rfl (by first | exact Or.inl rfl | exact Or.inr rfl) (fe_ite (ft_cmp (of_ne (hu64 hr)) (fe_var 3) (fe_lst fa_nil) (by rfl)) (fe_lc (own := [("_law_label", 7), ("_law_sort", 8)]) kp_L rfl nd (fi_seq (fe_dget (hu1 hr) (fe_callT (cf_dict rfl) rfl T.b_dict bo_dict (fa_cons (fe_ix (fe_var 1) fe_int (by intro _ _; rfl)) fa_nil)) (fe_ix (fe_var 3) fe_int (by intro _ _; rfl)) (by intro _ _; rfl))) (blkOk_by (N := N_law_some_label) (sc := defScope s_law_some_label) (by decide +kernel)) (by decide) (fun s2 H2 C2 cl2 fp2 => (fg_tup rfl (fgs_cons (fg_name (i := 7) nd rfl (by first | exact Or.inl rfl | exact Or.inr rfl)) (fgs_cons (fg_name (i := 8) nd rfl (by first | exact Or.inl rfl | exact Or.inr rfl)) fgs_nil)))) (fun s2 H2 C2 cl2 fp2 => pts_no rfl) (fun s2 H2 C2 cl2 fp2 => (fe_var 7))) (fe_lst (fa_cons fe_str fa_nil))))
      (fss_one (fs_ret (fe_callD (ok_law_any T) (fun z => nomatch z) (hr.mono (by decide)) rfl (takes_of rfl rfl rfl rfl) (fa_cons (fe_var 0) (fa_cons (fe_bin (of_add mk_L) (fe_bin (of_add mk_L) (fe_var 5) (fe_var 5)) (fe_lst (fa_cons fe_str (fa_cons fe_str (fa_cons fe_non (fa_cons fe_int (fa_cons (fe_tup (fa_cons fe_str fa_nil)) fa_nil))))))) fa_nil)))))))
abbrev N_law_written_due : List Str := ["_law_house_here", "_law_n", "_law_label", "_law_item", "_law_own", "_law_m", "_law_some", "_law_lots", "_law_labels", "_law_one", "_law_sort", "_law_at", "_law_found", "_law_later"]
theorem sc_law_written_due : FnScope ["_law_house_here", "_law_n", "_law_label", "_law_item", "_law_own", "_law_m", "_law_some", "_law_lots", "_law_labels", "_law_one", "_law_sort", "_law_at", "_law_found", "_law_later"] ["_law_house_here", "_law_n", "_law_label", "_law_item"] (defScope s_law_written_due) := ⟨rfl, rfl, rfl, by decide +kernel, rfl, by decide +kernel, by decide +kernel⟩
theorem ok_law_written_due (T : Tx w K mg base) : GAt true P w K mg base 3 "_law_written_due" s_law_written_due ["_law_house_here", "_law_n", "_law_label", "_law_item"] g_law_written_due := g_at T.d_law_written_due sc_law_written_due fun f cd A outer s H E hcd hG hr => by
    have nd := sc_law_written_due.nd
    exact (fss_cons (fs_if (ft_not (ft_val (fe_callD (ok_law_is_member T) hG (hr.mono (by decide)) rfl (takes_of rfl rfl rfl rfl) (fa_cons (fe_var 0) (fa_cons (fe_var 1) fa_nil))))) (fss_one (fs_ret (fe_tup (fa_cons fe_str (fa_cons (fe_var 1) fa_nil))))) fss_nil)
      (fss_cons (fs_set (i := 4) nd rfl (by first | exact Or.inl rfl | exact Or.inr rfl) (fe_ix (fe_lc (own := [("_law_m", 5), ("_law_some", 6), ("_law_lots", 7)]) kp_L rfl nd (fi_seq (fe_ix (fe_var 0) fe_int (by intro _ _; rfl))) (blkOk_by (N := N_law_written_due) (sc := defScope s_law_written_due) (by decide +kernel)) (by decide) (fun s2 H2 C2 cl2 fp2 => (fg_tup rfl (fgs_cons (fg_name (i := 5) nd rfl (by first | exact Or.inl rfl | exact Or.inr rfl)) (fgs_cons (fg_name (i := 6) nd rfl (by first | exact Or.inl rfl | exact Or.inr rfl)) (fgs_cons (fg_name (i := 7) nd rfl (by first | exact Or.inl rfl | exact Or.inr rfl)) fgs_nil))))) (fun s2 H2 C2 cl2 fp2 => pts_if (ft_cmp (of_eq (hu64 hr)) (fe_var 5) (fe_var 1) (by rfl))) (fun s2 H2 C2 cl2 fp2 => (fe_var 6))) fe_int (by intro _ _; rfl)))
      (fss_cons (fs_setLc (i := 8) rfl rfl rfl rfl rfl (own := [("_law_one", 9), ("_law_sort", 10)]) kp_L rfl nd (fi_seq (fe_dget (hu1 hr) (fe_callT (cf_dict rfl) rfl T.b_dict bo_dict (fa_cons (fe_ix (fe_var 0) fe_int (by intro _ _; rfl)) fa_nil)) (fe_var 4) (by intro _ _; rfl))) (blkOk_by (N := N_law_written_due) (sc := defScope s_law_written_due) (by decide +kernel)) (by decide) (fun s2 H2 C2 cl2 fp2 => (fg_tup rfl (fgs_cons (fg_name (i := 9) nd rfl (by first | exact Or.inl rfl | exact Or.inr rfl)) (fgs_cons (fg_name (i := 10) nd rfl (by first | exact Or.inl rfl | exact Or.inr rfl)) fgs_nil)))) (fun s2 H2 C2 cl2 fp2 => pts_no rfl) (fun s2 H2 C2 cl2 fp2 => (fe_var 9)))
      (fss_cons (fs_if (ft_cmp of_notin (fe_callB (cf_repr (hG rfl) (hu66 hr)) rfl T.b_repr bo_repr (fa_cons (fe_var 2) fa_nil)) (fe_lc (own := [("_law_one", 9)]) kp_L rfl nd (fi_seq (fe_var 8)) (blkOk_by (N := N_law_written_due) (sc := defScope s_law_written_due) (by decide +kernel)) (by decide) (fun s2 H2 C2 cl2 fp2 => (fg_name (i := 9) nd rfl (by first | exact Or.inl rfl | exact Or.inr rfl))) (fun s2 H2 C2 cl2 fp2 => pts_no rfl) (fun s2 H2 C2 cl2 fp2 => (fe_callB (cf_repr (hG rfl) (hu66 hr)) rfl T.b_repr bo_repr (fa_cons (fe_var 9) fa_nil)))) (by rfl)) (fss_one (fs_ret (fe_tup (fa_cons fe_str (fa_cons (fe_tup (fa_cons fe_str (fa_cons (fe_var 1) (fa_cons (fe_var 2) (fa_cons (fe_var 3) fa_nil))))) (fa_cons fe_str fa_nil)))))) fss_nil)
      (fss_cons (fs_par (i := 11) (j := 12) rfl nd rfl rfl (by decide) rfl rfl (fa_cons (fe_index ⟨rfl, rfl, rfl, rfl, rfl⟩ (fe_var 8) (fa_cons (fe_var 2) fa_nil)) (fa_cons (fe_new fa_nil) fa_nil)) (by rfl))
      (fss_cons (fs_if (ft_not (ft_val (fe_callD (ok_law_suits T) (fun z => nomatch z) (hr.mono (by decide)) rfl (takes_of rfl rfl rfl rfl) (fa_cons (fe_var 0) (fa_cons (fe_ix (fe_ix (fe_dget (hu1 hr) (fe_callT (cf_dict rfl) rfl T.b_dict bo_dict (fa_cons (fe_ix (fe_var 0) fe_int (by intro _ _; rfl)) fa_nil)) (fe_var 4) (by intro _ _; rfl)) (fe_var 11) (by intro _ _; rfl)) fe_int (by intro _ _; rfl)) (fa_cons (fe_var 3) fa_nil)))))) (fss_one (fs_ret (fe_tup (fa_cons fe_str (fa_cons (fe_tup (fa_cons fe_str (fa_cons (fe_var 1) (fa_cons (fe_var 2) (fa_cons (fe_var 3) fa_nil))))) (fa_cons fe_str fa_nil)))))) fss_nil)
      (fss_cons (fs_for (passes_of rfl) rfl (fi_seq (fe_ix (fe_var 0) fe_int (by intro _ _; rfl))) (fg_tup rfl (fgs_cons (fg_name (i := 5) nd rfl (by first | exact Or.inl rfl | exact Or.inr rfl)) (fgs_cons (fg_name (i := 6) nd rfl (by first | exact Or.inl rfl | exact Or.inr rfl)) (fgs_cons (fg_name (i := 7) nd rfl (by first | exact Or.inl rfl | exact Or.inr rfl)) fgs_nil)))) (fss_cons (fs_set (i := 13) nd rfl (by first | exact Or.inl rfl | exact Or.inr rfl) (fe_bin (of_add mk_L) (fe_bin (of_add mk_L) (fe_slice (fe_var 7) fo_none (fo_some (fe_var 11))) (fe_tup (fa_cons (fe_var 3) fa_nil))) (fe_slice (fe_var 7) (fo_some (fe_bin (of_add mk_L) (fe_var 11) fe_int)) fo_none)))
      (fss_one (fs_expr (fe_append ⟨rfl, rfl, rfl, rfl, rfl⟩ (fe_var 12) (fa_cons (fe_tup (fa_cons (fe_var 5) (fa_cons (fe_var 6) (fa_cons (fe_ite (ft_cmp (of_eq (hu64 hr)) (fe_var 5) (fe_var 1) (by rfl)) (fe_var 13) (fe_var 7)) fa_nil)))) fa_nil))))))
      (fss_frz 12 (fss_one (fs_ret (fe_tup (fa_cons fe_str (fa_cons (fe_tup (fa_cons (fe_ix (fe_var 0) fe_int (by intro _ _; rfl)) (fa_cons (fe_ix (fe_var 0) fe_int (by intro _ _; rfl)) (fa_cons (fe_callT cf_tuple rfl T.b_tuple bo_tuple (fa_cons (fe_var 12) fa_nil)) fa_nil)))) fa_nil)))))))))))))
abbrev N_law_dropped_due : List Str := ["_law_house_here", "_law_n", "_law_found", "_law_m", "_law_own", "_law_lots", "_law_later", "_law_label", "_law_sort", "_law_item"]
theorem sc_law_dropped_due : FnScope ["_law_house_here", "_law_n", "_law_found", "_law_m", "_law_own", "_law_lots", "_law_later", "_law_label", "_law_sort", "_law_item"] ["_law_house_here", "_law_n"] (defScope s_law_dropped_due) := ⟨rfl, rfl, rfl, by decide +kernel, rfl, by decide +kernel, by decide +kernel⟩
theorem ok_law_dropped_due (T : Tx w K mg base) : GAt true P w K mg base 2 "_law_dropped_due" s_law_dropped_due ["_law_house_here", "_law_n"] g_law_dropped_due := g_at T.d_law_dropped_due sc_law_dropped_due fun f cd A outer s H E hcd hG hr => by
    have nd := sc_law_dropped_due.nd
    exact (fss_cons (fs_if (ft_not (ft_val (fe_callD (ok_law_is_member T) hG (hr.mono (by decide)) rfl (takes_of rfl rfl rfl rfl) (fa_cons (fe_var 0) (fa_cons (fe_var 1) fa_nil))))) (fss_one (fs_ret (fe_tup (fa_cons fe_str (fa_cons (fe_var 1) fa_nil))))) fss_nil)
      (fss_cons (fs_set (i := 2) nd rfl (by first | exact Or.inl rfl | exact Or.inr rfl) (fe_new fa_nil))
      (fss_cons (fs_for (passes_of rfl) rfl (fi_seq (fe_ix (fe_var 0) fe_int (by intro _ _; rfl))) (fg_tup rfl (fgs_cons (fg_name (i := 3) nd rfl (by first | exact Or.inl rfl | exact Or.inr rfl)) (fgs_cons (fg_name (i := 4) nd rfl (by first | exact Or.inl rfl | exact Or.inr rfl)) (fgs_cons (fg_name (i := 5) nd rfl (by first | exact Or.inl rfl | exact Or.inr rfl)) fgs_nil)))) (fss_cons (fs_set (i := 6) nd rfl (by first | exact Or.inl rfl | exact Or.inr rfl) (fe_new fa_nil))
      (fss_cons (fs_for (passes_of rfl) rfl (fi_zip rfl T.b_zip (fa_cons (fe_dget (hu1 hr) (fe_callT (cf_dict rfl) rfl T.b_dict bo_dict (fa_cons (fe_ix (fe_var 0) fe_int (by intro _ _; rfl)) fa_nil)) (fe_var 4) (by intro _ _; rfl)) (fa_cons (fe_var 5) fa_nil))) (fg_tup rfl (fgs_cons (fg_tup rfl (fgs_cons (fg_name (i := 7) nd rfl (by first | exact Or.inl rfl | exact Or.inr rfl)) (fgs_cons (fg_name (i := 8) nd rfl (by first | exact Or.inl rfl | exact Or.inr rfl)) fgs_nil))) (fgs_cons (fg_name (i := 9) nd rfl (by first | exact Or.inl rfl | exact Or.inr rfl)) fgs_nil))) (fss_one (fs_expr (fe_append ⟨rfl, rfl, rfl, rfl, rfl⟩ (fe_var 6) (fa_cons (fe_ite (FW.ft (fw_and (ft_val (fe_isi (T := "str") rfl (by decide) rfl T.b_isinstance rfl T.b_str bo_str bo_isinstance (fe_var 8))) (fw_and1 (ft_cmp (of_eq (hu64 hr)) (fe_var 9) (fe_var 1) (by rfl))))) fe_non (fe_var 9)) fa_nil)))))
      (fss_frz 6 (fss_one (fs_if (ft_cmp (of_ne (hu64 hr)) (fe_var 3) (fe_var 1) (by rfl)) (fss_one (fs_expr (fe_append ⟨rfl, rfl, rfl, rfl, rfl⟩ (fe_var 2) (fa_cons (fe_tup (fa_cons (fe_var 3) (fa_cons (fe_var 4) (fa_cons (fe_callT cf_tuple rfl T.b_tuple bo_tuple (fa_cons (fe_var 6) fa_nil)) fa_nil)))) fa_nil)))) fss_nil))))))
      (fss_frz 2 (fss_one (fs_ret (fe_tup (fa_cons fe_str (fa_cons (fe_tup (fa_cons (fe_ix (fe_var 0) fe_int (by intro _ _; rfl)) (fa_cons (fe_ix (fe_var 0) fe_int (by intro _ _; rfl)) (fa_cons (fe_callT cf_tuple rfl T.b_tuple bo_tuple (fa_cons (fe_var 2) fa_nil)) fa_nil)))) fa_nil)))))))))
abbrev N_place_of : List Str := ["form", "field", "k", "name", "_"]
theorem sc_place_of : FnScope ["form", "field", "k", "name", "_"] ["form", "field"] (defScope s_place_of) := ⟨rfl, rfl, rfl, by decide +kernel, rfl, by decide +kernel, by decide +kernel⟩
theorem ok_place_of (T : Tx w K mg base) : GAt false P w K mg base 1 "place_of" s_place_of ["form", "field"] g_place_of := g_at T.d_place_of sc_place_of fun f cd A outer s H E hcd hG hr => by
    have nd := sc_place_of.nd
    exact (fss_cons (fs_for (passes_of rfl) rfl (fi_enu rfl T.b_enumerate (fa_cons (fe_var 0) fa_nil)) (fg_tup rfl (fgs_cons (fg_name (i := 2) nd rfl (by first | exact Or.inl rfl | exact Or.inr rfl)) (fgs_cons (fg_tup rfl (fgs_cons (fg_name (i := 3) nd rfl (by first | exact Or.inl rfl | exact Or.inr rfl)) (fgs_cons (fg_name (i := 4) nd rfl (by first | exact Or.inl rfl | exact Or.inr rfl)) fgs_nil))) fgs_nil))) (fss_one (fs_if (ft_cmp (of_eq (hu64 hr)) (fe_var 3) (fe_var 1) (by rfl)) (fss_one (fs_ret (fe_var 2))) fss_nil)))
      (fss_one (fs_ret fe_non)))
abbrev N_with_value : List Str := ["row", "j", "value", "number", "cls", "values"]
theorem sc_with_value : FnScope ["row", "j", "value", "number", "cls", "values"] ["row", "j", "value"] (defScope s_with_value) := ⟨rfl, rfl, rfl, by decide +kernel, rfl, by decide +kernel, by decide +kernel⟩
theorem ok_with_value (T : Tx w K mg base) : GAt false P w K mg base 1 "with_value" s_with_value ["row", "j", "value"] g_with_value := g_at T.d_with_value sc_with_value fun f cd A outer s H E hcd hG hr => by
    have nd := sc_with_value.nd
    exact (fss_cons (fs_asg (fe_var 0) (fg_tup rfl (fgs_cons (fg_name (i := 3) nd rfl (by first | exact Or.inl rfl | exact Or.inr rfl)) (fgs_cons (fg_name (i := 4) nd rfl (by first | exact Or.inl rfl | exact Or.inr rfl)) (fgs_cons (fg_name (i := 5) nd rfl (by first | exact Or.inl rfl | exact Or.inr rfl)) fgs_nil)))))
      (fss_one (fs_ret (fe_tup (fa_cons (fe_var 3) (fa_cons (fe_var 4) (fa_cons (fe_bin (of_add mk_L) (fe_bin (of_add mk_L) (fe_slice (fe_var 5) fo_none (fo_some (fe_var 1))) (fe_tup (fa_cons (fe_var 2) fa_nil))) (fe_slice (fe_var 5) (fo_some (fe_bin (of_add mk_L) (fe_var 1) fe_int)) fo_none)) fa_nil)))))))
abbrev N_written_by : List Str := ["plain", "step", "_", "number", "field", "value", "schema", "limit", "objects", "classes", "form", "j", "rows", "row"]
theorem sc_written_by : FnScope ["plain", "step", "_", "number", "field", "value", "schema", "limit", "objects", "classes", "form", "j", "rows", "row"] ["plain", "step"] (defScope s_written_by) := ⟨rfl, rfl, rfl, by decide +kernel, rfl, by decide +kernel, by decide +kernel⟩
theorem ok_written_by (T : Tx w K mg base) : GAt false P w K mg base 4 "written_by" s_written_by ["plain", "step"] g_written_by := g_at T.d_written_by sc_written_by fun f cd A outer s H E hcd hG hr => by
    have nd := sc_written_by.nd
    exact (fss_cons (fs_asg (fe_var 1) (fg_tup rfl (fgs_cons (fg_name (i := 2) nd rfl (by first | exact Or.inl rfl | exact Or.inr rfl)) (fgs_cons (fg_name (i := 3) nd rfl (by first | exact Or.inl rfl | exact Or.inr rfl)) (fgs_cons (fg_name (i := 4) nd rfl (by first | exact Or.inl rfl | exact Or.inr rfl)) (fgs_cons (fg_name (i := 5) nd rfl (by first | exact Or.inl rfl | exact Or.inr rfl)) fgs_nil))))))
      (fss_cons (fs_expr (fe_callD (ok_check_number T) (fun z => nomatch z) (hr.mono (by decide)) rfl (takes_of rfl rfl rfl rfl) (fa_cons (fe_var 0) (fa_cons (fe_var 3) fa_nil))))
      (fss_cons (fs_asg (fe_var 0) (fg_tup rfl (fgs_cons (fg_name (i := 6) nd rfl (by first | exact Or.inl rfl | exact Or.inr rfl)) (fgs_cons (fg_name (i := 7) nd rfl (by first | exact Or.inl rfl | exact Or.inr rfl)) (fgs_cons (fg_name (i := 8) nd rfl (by first | exact Or.inl rfl | exact Or.inr rfl)) fgs_nil)))))
      (fss_cons (fs_set (i := 9) nd rfl (by first | exact Or.inl rfl | exact Or.inr rfl) (fe_callD (ok_classes_of T) (fun z => nomatch z) (hr.mono (by decide)) rfl (takes_of rfl rfl rfl rfl) (fa_cons (fe_var 0) fa_nil)))
      (fss_cons (fs_set (i := 10) nd rfl (by first | exact Or.inl rfl | exact Or.inr rfl) (fe_callD (ok_form_of T) (fun z => nomatch z) (hr.mono (by decide)) rfl (takes_of rfl rfl rfl rfl) (fa_cons (fe_var 6) (fa_cons (fe_dget (hu1 hr) (fe_var 9) (fe_var 3) (by intro _ _; rfl)) fa_nil))))
      (fss_cons (fs_set (i := 11) nd rfl (by first | exact Or.inl rfl | exact Or.inr rfl) (fe_callD (ok_place_of T) (fun z => nomatch z) (hr.mono (by decide)) rfl (takes_of rfl rfl rfl rfl) (fa_cons (fe_var 10) (fa_cons (fe_var 4) fa_nil))))
      (fss_cons (fs_if (ft_cmp of_is (fe_var 11) fe_non (by rfl)) (fss_one (fs_raise2 (x := "InvalidStep") (f := "step") (g := "word") (k := 0) T.x_InvalidStep rfl (takes_of rfl rfl rfl rfl) (hr.mono (by decide)) rfl (fa_cons (fe_var 1) (fa_cons fe_str fa_nil)))) fss_nil)
      (fss_cons (fs_if (ft_not (ft_val (fe_callD (ok_suits T) (fun z => nomatch z) (hr.mono (by decide)) rfl (takes_of rfl rfl rfl rfl) (fa_cons (fe_ix (fe_ix (fe_var 10) (fe_var 11) (by intro _ _; rfl)) fe_int (by intro _ _; rfl)) (fa_cons (fe_var 5) (fa_cons (fe_var 9) fa_nil)))))) (fss_one (fs_raise2 (x := "InvalidStep") (f := "step") (g := "word") (k := 0) T.x_InvalidStep rfl (takes_of rfl rfl rfl rfl) (hr.mono (by decide)) rfl (fa_cons (fe_var 1) (fa_cons fe_str fa_nil)))) fss_nil)
      (fss_cons (fs_setLc (i := 12) rfl rfl rfl rfl rfl (own := [("row", 13)]) kp_L rfl nd (fi_seq (fe_var 8)) (blkOk_by (N := N_written_by) (sc := defScope s_written_by) (by decide +kernel)) (by decide) (fun s2 H2 C2 cl2 fp2 => (fg_name (i := 13) nd rfl (by first | exact Or.inl rfl | exact Or.inr rfl))) (fun s2 H2 C2 cl2 fp2 => pts_no rfl) (fun s2 H2 C2 cl2 fp2 => (fe_ite (ft_cmp (of_eq (hu64 hr)) (fe_ix (fe_var 13) fe_int (by intro _ _; rfl)) (fe_var 3) (by rfl)) (fe_callD (ok_with_value T) (fun z => nomatch z) (hr.mono (by decide)) rfl tk0 (fa_cons (fe_var 13) (fa_cons (fe_var 11) (fa_cons (fe_var 5) fa_nil)))) (fe_var 13))))
      (fss_one (fs_ret (fe_tup (fa_cons (fe_var 6) (fa_cons (fe_var 7) (fa_cons (fe_callT cf_tuple rfl T.b_tuple bo_tuple (fa_cons (fe_var 12) fa_nil)) fa_nil)))))))))))))))
abbrev N_written : List Str := ["plain", "number", "field", "value"]
theorem sc_written : FnScope ["plain", "number", "field", "value"] ["plain", "number", "field", "value"] (defScope s_written) := ⟨rfl, rfl, rfl, by decide +kernel, rfl, by decide +kernel, by decide +kernel⟩
theorem ok_written (T : Tx w K mg base) : GAt false P w K mg base 5 "written" s_written ["plain", "number", "field", "value"] g_written := g_at T.d_written sc_written fun f cd A outer s H E hcd hG hr => by
    have nd := sc_written.nd
    exact (fss_one (fs_ret (fe_callD (ok_written_by T) (fun z => nomatch z) (hr.mono (by decide)) rfl (takes_of rfl rfl rfl rfl) (fa_cons (fe_var 0) (fa_cons (fe_tup (fa_cons fe_str (fa_cons (fe_var 1) (fa_cons (fe_var 2) (fa_cons (fe_var 3) fa_nil))))) fa_nil)))))
abbrev N_law_others_right : List Str := ["_law_feed_here", "_law_house_here", "_law_n", "_law_label", "_law_item", "_law_due", "_law_told"]
theorem sc_law_others_right : FnScope ["_law_feed_here", "_law_house_here", "_law_n", "_law_label", "_law_item", "_law_due", "_law_told"] ["_law_feed_here", "_law_house_here"] (defScope s_law_others_right) := ⟨rfl, rfl, rfl, by decide +kernel, rfl, by decide +kernel, by decide +kernel⟩
theorem ok_law_others_right (T : Tx w K mg base) : GAt true P w K mg base 8 "_law_others_right" s_law_others_right ["_law_feed_here", "_law_house_here"] g_law_others_right := g_at T.d_law_others_right sc_law_others_right fun f cd A outer s H E hcd hG hr => by
    have nd := sc_law_others_right.nd
    obtain ⟨lc, lP, lc1, lTB, lmT, lun⟩ := T.l_law_others_right
    have hcode := hcd.eq lc1
    obtain ⟨CL_LateError, CLm_LateError, CLs_LateError⟩ := T.n_LateError
    exact (fss_cons (fs_set (i := 2) nd rfl (by first | exact Or.inl rfl | exact Or.inr rfl) (fe_callD (ok_law_some_number T) (fun z => nomatch z) (hr.mono (by decide)) rfl (takes_of rfl rfl rfl rfl) (fa_cons (fe_var 0) (fa_cons (fe_var 1) fa_nil))))
      (fss_cons (fs_asg (fe_tup (fa_cons (fe_callD (ok_law_some_label T) hG (hr.mono (by decide)) rfl (takes_of rfl rfl rfl rfl) (fa_cons (fe_var 0) (fa_cons (fe_var 1) (fa_cons (fe_var 2) fa_nil)))) (fa_cons (fe_callD (ok_law_some_item T) (fun z => nomatch z) (hr.mono (by decide)) rfl (takes_of rfl rfl rfl rfl) (fa_cons (fe_var 0) (fa_cons (fe_var 1) fa_nil))) fa_nil))) (fg_tup rfl (fgs_cons (fg_name (i := 3) nd rfl (by first | exact Or.inl rfl | exact Or.inr rfl)) (fgs_cons (fg_name (i := 4) nd rfl (by first | exact Or.inl rfl | exact Or.inr rfl)) fgs_nil))))
      (fss_cons (fs_set (i := 5) nd rfl (by first | exact Or.inl rfl | exact Or.inr rfl) (fe_callB (cf_repr (hG rfl) (hu66 hr)) rfl T.b_repr bo_repr (fa_cons (fe_callD (ok_law_written_due T) hG (hr.mono (by decide)) rfl (takes_of rfl rfl rfl rfl) (fa_cons (fe_var 1) (fa_cons (fe_var 2) (fa_cons (fe_var 3) (fa_cons (fe_var 4) fa_nil))))) fa_nil)))
      (fss_cons (fs_set (i := 6) nd rfl (by first | exact Or.inl rfl | exact Or.inr rfl) (fe_new (fa_cons (fe_callB (cf_repr (hG rfl) (hu66 hr)) rfl T.b_repr bo_repr (fa_cons (fe_out (k := 5) (cl := "LateError") (en := "e") (fn := "_law_found") (tab := tabs_LateError) (qf := qf_law_outcome) (sgf := sg_law_outcome) (Ng := N_law_outcome) (ie := 2) (ifn := 1) (st := s_law_outcome) T.d_law_outcome sc_law_outcome rfl rfl rfl rfl (by decide) (by decide) rfl rfl rfl CLm_LateError (by decide) CLs_LateError (su_law_outcome T) (fun _ => rfl) (by decide) (by decide) rfl hq_law_outcome rfl lTB hcode lmT lun (hr.mono (by decide)) (LamX.lamS_by (show LamX.lamSB (defScope s_law_others_right) _ = true by decide +kernel)) rfl (fun _ _ _ _ _ => rfl) (fun A outer s H E f2 c2 hr => (fe_callD (ok_written T) (fun z => nomatch z) (hr.mono (by decide)) rfl (takes_of rfl rfl rfl rfl) (fa_cons (fe_var 1) (fa_cons (fe_var 2) (fa_cons (fe_var 3) (fa_cons (fe_var 4) fa_nil))))))) fa_nil)) fa_nil)))
      (fss_cons (fs_expr (fe_append ⟨rfl, rfl, rfl, rfl, rfl⟩ (fe_var 6) (fa_cons (fe_callB (cf_repr (hG rfl) (hu66 hr)) rfl T.b_repr bo_repr (fa_cons (fe_out (k := 5) (cl := "LateError") (en := "e") (fn := "_law_found") (tab := tabs_LateError) (qf := qf_law_outcome) (sgf := sg_law_outcome) (Ng := N_law_outcome) (ie := 2) (ifn := 1) (st := s_law_outcome) T.d_law_outcome sc_law_outcome rfl rfl rfl rfl (by decide) (by decide) rfl rfl rfl CLm_LateError (by decide) CLs_LateError (su_law_outcome T) (fun _ => rfl) (by decide) (by decide) rfl hq_law_outcome rfl lTB hcode lmT lun (hr.mono (by decide)) (LamX.lamS_by (show LamX.lamSB (defScope s_law_others_right) _ = true by decide +kernel)) rfl (fun _ _ _ _ _ => rfl) (fun A outer s H E f2 c2 hr => (fe_callDK ["value", "field", "number", "plain"] [3, 2, 1, 0] (ok_written T) (fun z => nomatch z) (hr.mono (by decide)) rfl (takes_of rfl rfl rfl rfl) (fun _ _ _ _ _ _ ws hl => match ws, hl with | [_, _, _, _], _ => rfl) (fk_cons (fe_var 4) (fk_cons (fe_var 3) (fk_cons (fe_var 2) (fk_cons (fe_var 1) fk_nil))))))) fa_nil)) fa_nil)))
      (fss_cons (fs_if (ft_cmp (of_ne (hu64 hr)) (fe_var 6) (fe_lst (fa_cons (fe_var 5) (fa_cons (fe_var 5) fa_nil))) (by rfl)) (fss_one (fs_ret fe_bl)) fss_nil)
      (fss_cons (fs_set (i := 5) nd rfl (by first | exact Or.inl rfl | exact Or.inr rfl) (fe_callB (cf_repr (hG rfl) (hu66 hr)) rfl T.b_repr bo_repr (fa_cons (fe_callD (ok_law_dropped_due T) hG (hr.mono (by decide)) rfl (takes_of rfl rfl rfl rfl) (fa_cons (fe_var 1) (fa_cons (fe_var 2) fa_nil))) fa_nil)))
      (fss_cons (fs_set (i := 6) nd rfl (by first | exact Or.inl rfl | exact Or.inr rfl) (fe_new (fa_cons (fe_callB (cf_repr (hG rfl) (hu66 hr)) rfl T.b_repr bo_repr (fa_cons (fe_out (k := 4) (cl := "LateError") (en := "e") (fn := "_law_found") (tab := tabs_LateError) (qf := qf_law_outcome) (sgf := sg_law_outcome) (Ng := N_law_outcome) (ie := 2) (ifn := 1) (st := s_law_outcome) T.d_law_outcome sc_law_outcome rfl rfl rfl rfl (by decide) (by decide) rfl rfl rfl CLm_LateError (by decide) CLs_LateError (su_law_outcome T) (fun _ => rfl) (by decide) (by decide) rfl hq_law_outcome rfl lTB hcode lmT lun (hr.mono (by decide)) (LamX.lamS_by (show LamX.lamSB (defScope s_law_others_right) _ = true by decide +kernel)) rfl (fun _ _ _ _ _ => rfl) (fun A outer s H E f2 c2 hr => (fe_callD (ok_dropped T) (fun z => nomatch z) (hr.mono (by decide)) rfl (takes_of rfl rfl rfl rfl) (fa_cons (fe_var 1) (fa_cons (fe_var 2) fa_nil))))) fa_nil)) fa_nil)))
      (fss_cons (fs_expr (fe_append ⟨rfl, rfl, rfl, rfl, rfl⟩ (fe_var 6) (fa_cons (fe_callB (cf_repr (hG rfl) (hu66 hr)) rfl T.b_repr bo_repr (fa_cons (fe_out (k := 4) (cl := "LateError") (en := "e") (fn := "_law_found") (tab := tabs_LateError) (qf := qf_law_outcome) (sgf := sg_law_outcome) (Ng := N_law_outcome) (ie := 2) (ifn := 1) (st := s_law_outcome) T.d_law_outcome sc_law_outcome rfl rfl rfl rfl (by decide) (by decide) rfl rfl rfl CLm_LateError (by decide) CLs_LateError (su_law_outcome T) (fun _ => rfl) (by decide) (by decide) rfl hq_law_outcome rfl lTB hcode lmT lun (hr.mono (by decide)) (LamX.lamS_by (show LamX.lamSB (defScope s_law_others_right) _ = true by decide +kernel)) rfl (fun _ _ _ _ _ => rfl) (fun A outer s H E f2 c2 hr => (fe_callDK ["number", "plain"] [1, 0] (ok_dropped T) (fun z => nomatch z) (hr.mono (by decide)) rfl (takes_of rfl rfl rfl rfl) (fun _ _ _ _ _ _ ws hl => match ws, hl with | [_, _], _ => rfl) (fk_cons (fe_var 2) (fk_cons (fe_var 1) fk_nil))))) fa_nil)) fa_nil)))
      (fss_frz 6 (fss_one (fs_ret (fe_cmp (of_eq (hu64 hr)) (fe_var 6) (fe_lst (fa_cons (fe_var 5) (fa_cons (fe_var 5) fa_nil))) (by rfl))))))))))))))
abbrev N_law : List Str := ["_law_script", "_law_feed_here", "_law_house_here", "_law_rows", "_law_later", "_law_lap", "_law_before", "_law_k"]
theorem sc_law : FnScope ["_law_script", "_law_feed_here", "_law_house_here", "_law_rows", "_law_later", "_law_lap", "_law_before", "_law_k"] ["_law_script"] (defScope s_law) := ⟨rfl, rfl, rfl, by decide +kernel, rfl, by decide +kernel, by decide +kernel⟩
theorem ok_law (T : Tx w K mg base) : GAt true P w K mg base 11 "law" s_law ["_law_script"] g_law := g_at T.d_law sc_law fun f cd A outer s H E hcd hG hr => by
    have nd := sc_law.nd
    obtain ⟨lc, lP, lc1, lTB, lmT, lun⟩ := T.l_law
    have hcode := hcd.eq lc1
    obtain ⟨CL_LateError, CLm_LateError, CLs_LateError⟩ := T.n_LateError
    exact (fss_cons (fs_set (i := 1) nd rfl (by first | exact Or.inl rfl | exact Or.inr rfl) (fe_callD (ok_law_feed T) (fun z => nomatch z) (hr.mono (by decide)) rfl (takes_of rfl rfl rfl rfl) (fa_cons (fe_var 0) fa_nil)))
      (fss_cons (fs_asg (fe_callD0 (ok_law_document T) (fun z => nomatch z) (hr.mono (by decide)) rfl (takes_of rfl rfl rfl rfl)) (fg_tup rfl (fgs_cons (fg_name (i := 2) nd rfl (by first | exact Or.inl rfl | exact Or.inr rfl)) (fgs_cons (fg_name (i := 3) nd rfl (by first | exact Or.inl rfl | exact Or.inr rfl)) fgs_nil))))
      (fss_cons (fs_set (i := 4) nd rfl (by first | exact Or.inl rfl | exact Or.inr rfl) (fe_tup (fa_cons fe_str (fa_cons (fe_tup (fa_cons (fe_ix (fe_var 2) fe_int (by intro _ _; rfl)) (fa_cons fe_int (fa_cons (fe_tup (fa_cons (fe_tup (fa_cons fe_int (fa_cons fe_str (fa_cons (fe_tup (fa_cons fe_non (fa_cons fe_int fa_nil))) fa_nil)))) (fa_cons (fe_tup (fa_cons fe_int (fa_cons fe_str (fa_cons (fe_tup (fa_cons fe_non (fa_cons fe_int fa_nil))) fa_nil)))) fa_nil))) fa_nil)))) fa_nil))))
      (fss_cons (fs_if (ft_cmp (of_ne (hu64 hr)) (fe_out (k := 4) (cl := "LateError") (en := "e") (fn := "_law_found") (tab := tabs_LateError) (qf := qf_law_outcome) (sgf := sg_law_outcome) (Ng := N_law_outcome) (ie := 2) (ifn := 1) (st := s_law_outcome) T.d_law_outcome sc_law_outcome rfl rfl rfl rfl (by decide) (by decide) rfl rfl rfl CLm_LateError (by decide) CLs_LateError (su_law_outcome T) (fun _ => rfl) (by decide) (by decide) rfl hq_law_outcome rfl lTB hcode lmT lun (hr.mono (by decide)) (LamX.lamS_by (show LamX.lamSB (defScope s_law) _ = true by decide +kernel)) rfl (fun _ _ _ _ _ => rfl) (fun A outer s H E f2 c2 hr => (fe_callD (ok_dropped T) (fun z => nomatch z) (hr.mono (by decide)) rfl (takes_of rfl rfl rfl rfl) (fa_cons (fe_var 2) (fa_cons fe_int fa_nil))))) (fe_var 4) (by rfl)) (fss_one (fs_ret fe_bl)) fss_nil)
      (fss_cons (fs_for (passes_of rfl) rfl (fi_range1 rfl T.b_range (fa_cons (fe_callD (ok_law_laps T) (fun z => nomatch z) (hr.mono (by decide)) rfl (takes_of rfl rfl rfl rfl) (fa_cons (fe_var 0) (fa_cons fe_int fa_nil))) fa_nil)) (fg_name (i := 5) nd rfl (by first | exact Or.inl rfl | exact Or.inr rfl)) (fss_cons (fs_set (i := 2) nd rfl (by first | exact Or.inl rfl | exact Or.inr rfl) (fe_callD (ok_law_house T) (fun z => nomatch z) (hr.mono (by decide)) rfl (takes_of rfl rfl rfl rfl) (fa_cons (fe_var 1) (fa_cons (fe_callD (ok_law_classes T) (fun z => nomatch z) (hr.mono (by decide)) rfl (takes_of rfl rfl rfl rfl) (fa_cons (fe_var 1) fa_nil)) (fa_cons fe_int fa_nil)))))
      (fss_cons (fs_set (i := 6) nd rfl (by first | exact Or.inl rfl | exact Or.inr rfl) (fe_callB (cf_repr (hG rfl) (hu66 hr)) rfl T.b_repr bo_repr (fa_cons (fe_var 2) fa_nil)))
      (fss_cons (fs_for (passes_of rfl) rfl (fi_range1 rfl T.b_range (fa_cons fe_int fa_nil)) (fg_name (i := 7) nd rfl (by first | exact Or.inl rfl | exact Or.inr rfl)) (fss_one (fs_if (FW.ft (fw_or (ft_not (ft_val (fe_callD (ok_law_making_right T) hG (hr.mono (by decide)) rfl (takes_of rfl rfl rfl rfl) (fa_cons (fe_var 1) (fa_cons (fe_var 2) fa_nil))))) (fw_or1 (ft_not (ft_val (fe_callD (ok_law_others_right T) hG (hr.mono (by decide)) rfl (takes_of rfl rfl rfl rfl) (fa_cons (fe_var 1) (fa_cons (fe_var 2) fa_nil)))))))) (fss_one (fs_ret fe_bl)) fss_nil)))
      (fss_one (fs_if (ft_cmp (of_ne (hu64 hr)) (fe_callB (cf_repr (hG rfl) (hu66 hr)) rfl T.b_repr bo_repr (fa_cons (fe_var 2) fa_nil)) (fe_var 6) (by rfl)) (fss_one (fs_ret fe_bl)) fss_nil))))))
      (fss_one (fs_ret fe_bl)))))))
end
end K18

end
/-! ## Gx -/
section
namespace Fx
open PySem
open L2 (atI ixN Key)
variable [Tabl]
theorem compL_pure {mk : List D → M D} {t : D → Env → Option Env} {c : Env → M Bool} {el : Env → M D} {env0 : Env} {S : Store} (p : D → Bool) (f : D → D) : ∀ (ds acc : List D),
    (∀ d ∈ ds, ∃ env1, t d env0 = some env1 ∧ c env1 S = .ok (p d) S ∧ (p d = true → el env1 S = .ok (f d) S)) → acc.length + ds.length ≤ sizeLine →
    compL mk t c el env0 ds acc S = mk (acc ++ (ds.filter p).map f) S
  | [], acc, _, _ => by simp [compL]
  | d :: ds, acc, h, hl => by
    obtain ⟨env1, h1, h2, h3⟩ := h d (by simp)
    have hr := fun d' hd' => h d' (List.mem_cons_of_mem _ hd')
    unfold compL
    simp only [h1, bdN, h2]
    cases q : p d with
    | false =>
      rw [if_neg (by simp), compL_pure p f ds acc hr (by simp at hl; omega)]
      simp [List.filter_cons, q]
    | true =>
      simp only [if_pos, bdN, h3 q]
      have hl2 : acc.length < sizeLine := by simp at hl; omega
      simp only [if_pos hl2]
      rw [compL_pure p f ds (acc ++ [f d]) hr (by simp at hl ⊢; omega)]
      simp [List.filter_cons, q]
theorem loop_all {t : D → Env → Option Env} {b : Env → MS} {S : Store} (Iv : Env → Prop) (p : D → Bool) (r : D) : ∀ (ds : List D) (env : Env), Iv env →
    (∀ d ∈ ds, ∀ env, Iv env → ∃ env1, t d env = some env1 ∧ (p d = true → ∃ env2, Iv env2 ∧ b env1 S = .ok (.nx env2) S) ∧ (p d = false → b env1 S = .ok (.rt r) S)) →
    (ds.all p = true → ∃ env', Iv env' ∧ loop t b ds env S = .ok (.nx env') S) ∧ (ds.all p = false → loop t b ds env S = .ok (.rt r) S)
  | [], env, hi, _ => ⟨fun _ => ⟨env, hi, rfl⟩, fun h => by simp at h⟩
  | d :: ds, env, hi, h => by
    obtain ⟨env1, h1, h2, h3⟩ := h d (by simp) env hi
    have hr := fun d' hd' => h d' (List.mem_cons_of_mem _ hd')
    cases q : p d with
    | false =>
      refine ⟨fun z => by simp [q] at z, fun _ => ?_⟩
      unfold loop
      simp only [h1, h3 q]
    | true =>
      obtain ⟨env2, i2, e2⟩ := h2 q
      obtain ⟨g1, g2⟩ := loop_all Iv p r ds env2 i2 hr
      refine ⟨fun z => ?_, fun z => ?_⟩
      · obtain ⟨env', i', e'⟩ := g1 (by simpa [q] using z)
        refine ⟨env', i', ?_⟩
        unfold loop
        simp only [h1, e2, e']
      · unfold loop
        simp only [h1, e2, g2 (by simpa [q] using z)]
theorem blsOf_map {α : Type} (p : α → Bool) : ∀ xs : List α, blsOf (xs.map fun x => D.bl (p x)) = some (xs.map p)
  | [] => rfl
  | x :: xs => by simp [blsOf, blsOf_map p xs]
theorem allD_map {α : Type} (p : α → Bool) (xs : List α) (S : Store) : allD [.lst (xs.map fun x => D.bl (p x))] S = .ok (.bl (xs.all p)) S := by
  simp [allD, bd, seqL, seqM, pur, opt, blsOf_map, List.all_map, Function.comp]
theorem mkL_ok {ds : List D} {S : Store} (h : ds.length ≤ sizeLine) : mkL ds S = .ok (.lst ds) S := by simp [mkL, h, pur]
theorem mkT_ok {ds : List D} {S : Store} (h : ds.length ≤ sizeLine) : mkT ds S = .ok (.tup ds) S := by simp [mkT, h, pur]
theorem len_pys : ∀ ds : List D, ds.length ≤ PyData.weightAll (pys ds)
  | [] => Nat.zero_le _
  | d :: ds => by have := len_pys ds; simp only [List.length_cons, pys, PyData.weightAll]; omega
theorem len_str {x : Str} : x.length = wgt (.str x) := rfl
theorem wgt_mem : ∀ {ds : List D} {d : D}, d ∈ ds → wgt d + 1 ≤ PyData.weightAll (pys ds)
  | x :: ds, d, h => by
    rcases List.mem_cons.mp h with e | h
    · subst e; simp only [pys, PyData.weightAll, wgt]; omega
    · have := wgt_mem h; simp only [pys, PyData.weightAll]; omega
theorem ite_ap {α β : Type} {c : Prop} [Decidable c] (f g : α → β) (x : α) : (if c then f else g) x = if c then f x else g x := by split <;> rfl
theorem filt_all {α : Type} (p : α → Bool) : ∀ l : List α, (l.filter fun c => !p c).isEmpty = l.all p
  | [] => rfl
  | x :: l => by cases h : p x <;> simp [h, filt_all p l]
theorem isEmpty_map' {α β : Type} (f : α → β) (l : List α) : (l.map f).isEmpty = l.isEmpty := by cases l <;> rfl
theorem cmp_ok {vs : List Nat} {it : Env → M (List D)} {t : D → Env → Option Env} {c : Env → M Bool} {el : Env → M D} {env : Env} {S : Store} (ds : List D) (p : D → Bool) (f : D → D) (hit : it env S = .ok ds S)
    (h : ∀ d ∈ ds, ∃ env1, t d (wipeE env vs) = some env1 ∧ c env1 S = .ok (p d) S ∧ (p d = true → el env1 S = .ok (f d) S)) (hl : ds.length ≤ sizeLine) :
    cmp vs mkL it t c el env S = .ok (.lst ((ds.filter p).map f)) S := by
  simp only [cmp, bd, hit]
  rw [compL_pure p f ds [] h (by simpa using hl), List.nil_append, mkL_ok]
  rw [List.length_map]
  exact Nat.le_trans (List.length_filter_le _ _) hl
theorem bin_ok {g : D → D → M D} {f1 f2 : Env → M D} {env : Env} {S : Store} {a b : D} (h1 : f1 env S = .ok a S) (h2 : f2 env S = .ok b S) : Fx.bin g f1 f2 env S = g a b S := by
  simp only [Fx.bin, bd, h1, h2]
theorem ret_ok {f : Env → M D} {env : Env} {S : Store} {a : D} (h1 : f env S = .ok a S) : Fx.ret f env S = .ok (.rt a) S := by
  simp only [Fx.ret, lft, h1]
theorem nilL (env : Env) (S : Store) : dsp mkL (fun _ => pur []) env S = .ok (.lst []) S := rfl
theorem nilT (env : Env) (S : Store) : dsp mkT (fun _ => pur []) env S = .ok (.tup []) S := rfl
theorem body_rt {n m : Nat} {b : Env → MS} {ds : List D} {S S' : Store} {d : D} (hm : ds.length = m) (h : b (ent n ds) S = .ok (.rt d) S') : bodyD n m b ds S = .ok d S' := by
  simp only [bodyD, if_pos hm, h]
theorem cal1_ok {f : Env → M D} {g : List D → M D} {env : Env} {S : Store} {a : D} (h : f env S = .ok a S) : cal (cns f (fun _ => pur [])) g env S = g [a] S := by
  simp only [cal, cns, bd, h, pur]
theorem andV_t {f g : Env → M D} {env : Env} {S : Store} (h : f env S = .ok (.bl true) S) : andV f g env S = g env S := by
  simp [andV, bd, h, asB, pur]
theorem andV_f {f g : Env → M D} {env : Env} {S : Store} (h : f env S = .ok (.bl false) S) : andV f g env S = .ok (.bl false) S := by
  simp [andV, bd, h, asB, pur]
theorem getv_ok {i : Nat} {env : Env} {S : Store} {d : D} (h : env[i]? = some (some d)) : getv i env S = .ok d S := by
  simp only [getv, h, pur]
theorem tst_ok {f : Env → M D} {env : Env} {S S' : Store} {c : Bool} (h : f env S = .ok (.bl c) S') : tst f env S = .ok c S' := by
  simp only [tst, bd, h, asB, pur]
theorem notB_ok {f : Env → M Bool} {env : Env} {S S' : Store} {c : Bool} (h : f env S = .ok c S') : notB f env S = .ok (!c) S' := by
  simp only [notB, bd, h, pur]
theorem ifS_t {p : Env → M Bool} {g g' : Env → MS} {env : Env} {S S' : Store} (h : p env S = .ok true S') : ifS p g g' env S = g env S' := by
  simp only [ifS, lft, h, if_true]
theorem ifS_f {p : Env → M Bool} {g g' : Env → MS} {env : Env} {S S' : Store} (h : p env S = .ok false S') : ifS p g g' env S = g' env S' := by
  simp [ifS, lft, h]
theorem seq_nx {g g' : Env → MS} {env env' : Env} {S S' : Store} (h : g env S = .ok (.nx env') S') : seqS g g' env S = g' env' S' := by
  simp only [seqS, h]
theorem seq_rt {g g' : Env → MS} {env : Env} {S S' : Store} {d : D} (h : g env S = .ok (.rt d) S') : seqS g g' env S = .ok (.rt d) S' := by
  simp only [seqS, h]
theorem set_ok {i : Nat} {f : Env → M D} {env : Env} {S S' : Store} {d : D} (h : f env S = .ok d S') : Fx.set i f env S = .ok (.nx (env.set i (some d))) S' := by
  simp only [Fx.set, lft, h]
theorem for_ok {m : Env → M (List D)} {t : D → Env → Option Env} {b : Env → MS} {env : Env} {S S' : Store} {ds : List D} (h : m env S = .ok ds S') : forS m t b env S = loop t b ds env S' := by
  simp only [forS, lft, h]
abbrev big : Nat := 1048576
def intP : D → Bool
  | .int _ => true
  | _ => false
def low (c : Nat) : Bool := decide (97 ≤ c ∧ c ≤ 122)
def nameP : D → Bool
  | .str x => decide (1 ≤ x.length ∧ x.length ≤ 8) && x.cps.toList.all low
  | _ => false
theorem letters_in (c : Nat) : decide (c ∈ ("abcdefghijklmnopqrstuvwxyz" : Str).cps.toList) = low c := by
  have e : ("abcdefghijklmnopqrstuvwxyz" : Str).cps.toList = [97, 98, 99, 100, 101, 102, 103, 104, 105, 106, 107, 108, 109, 110, 111, 112, 113, 114, 115, 116, 117, 118, 119, 120, 121, 122] := by decide +kernel
  rw [e]
  unfold low
  congr 1
  simp only [List.mem_cons, List.not_mem_nil, or_false, eq_iff_iff]
  omega
theorem letters_in' (c : Nat) : decide (c ∈ ("abcdefghijklmnopqrstuvwxyz" : Str).cps) = low c := by
  rw [← letters_in]; simp
theorem toL_len (x : Str) : x.cps.toList.length = x.length := by simp [Str.length]
def rangeP : D → Bool
  | .tup [.int a, .int b] => decide (a ≤ b)
  | _ => false
def kindP (d : D) : Bool := nameP d || rangeP d
theorem gd_tup2 {n : Nat} {a b : D} (h : gd n (.tup [a, b]) = true) : gd n a = true ∧ gd n b = true := by simpa [gd, gds] using h
theorem neD_int (a b : Int) (S : Store) : neD (.int a) (.int b) S = .ok (.bl (!(a == b))) S := neD_eq (n := a.natAbs) (m := b.natAbs) (by simp [gd]) (by simp [gd]) (Nat.zero_le _) (Nat.zero_le _)
theorem eqD_int (a b : Int) (S : Store) : eqD (.int a) (.int b) S = .ok (.bl (a == b)) S := eqD_eq (n := a.natAbs) (m := b.natAbs) (by simp [gd]) (by simp [gd]) (Nat.zero_le _) (Nat.zero_le _)
theorem ix20 (a b : D) (S : Store) : ixD (.tup [a, b]) (.int 0) S = .ok a S := rfl
theorem ix21 (a b : D) (S : Store) : ixD (.tup [a, b]) (.int 1) S = .ok b S := rfl
theorem inR_of {n : Int} (h1 : -1000000000 ≤ n) (h2 : n ≤ 1000000000) : inR n := by unfold inR; constructor <;> omega
theorem rng2_ok {lo hi : Int} (h : inR lo ∧ inR hi) (S : Store) : rng2M [.int lo, .int hi] S = .ok (rng lo hi) S := by simp only [rng2M, if_pos h, pur]
theorem rng1_ok {hi : Int} (h : inR hi) (S : Store) : rng1M [.int hi] S = .ok (rng 0 hi) S := by simp only [rng1M, if_pos h, pur]
theorem itr2_ok {t : Fx.Env → M (List D)} {env : Fx.Env} {lo hi : Int} {S : Store} (ht : t env S = .ok [.int lo, .int hi] S) (h : inR lo ∧ inR hi) : itr2 t env S = .ok (rng lo hi) S := by
  simp only [itr2, bd, ht, rng2_ok h S]
theorem itr1_ok {t : Fx.Env → M (List D)} {env : Fx.Env} {hi : Int} {S : Store} (ht : t env S = .ok [.int hi] S) (h : inR hi) : itr1 t env S = .ok (rng 0 hi) S := by
  simp only [itr1, bd, ht, rng1_ok h S]
theorem atI_nat {α : Type} {xs : List α} {k : Nat} (h : k < xs.length) : atI xs (k : Int) = xs[k]? := by
  unfold atI ixN
  rw [if_pos (by omega), if_pos (by omega)]
  rfl
theorem ix_lst {xs : List D} {i : Int} {k : Nat} {d : D} {S : Store} (hi : i = k) (h : xs[k]? = some d) : ixD (.lst xs) (.int i) S = .ok d S := by
  subst hi
  simp only [ixD, seqLT, seqL, seqM, bd, pur, atI_nat (Fx.lt_of_some h), h, opt]
def sD : D → Str
  | .str x => x
  | _ => ""
theorem map_at {xs : List Str} {k : Nat} (h : k < xs.length) : (xs.map D.str)[k]? = some (.str (xs.getD k "")) := by
  rw [List.getElem?_map, List.getElem?_eq_getElem h]
  simp [List.getD, List.getElem?_eq_getElem h]
def ltS (x y : Str) : Bool := decide (x.cps.toList < y.cps.toList)
def ascS (xs : List Str) : Bool := (List.range (xs.length - 1)).all fun k => ltS (xs.getD k "") (xs.getD (k + 1) "")
def pairP : D → Bool
  | .tup ds => ((ds.length : Int) == 2)
  | _ => false
def fstD : D → D
  | .tup (a :: _) => a
  | _ => .non
def sndD : D → D
  | .tup (_ :: b :: _) => b
  | _ => .non
theorem pairP_inv {d : D} (h : pairP d = true) : ∃ a b, d = .tup [a, b] := by
  cases d <;> simp [pairP] at h
  rename_i ds
  match ds, h with
  | [a, b], _ => exact ⟨a, b, rfl⟩
  | [], h => simp at h
  | [a], h => simp at h
  | a :: b :: c :: r, h => simp at h; omega
theorem nameP_str {d : D} (h : nameP d = true) : d = .str (sD d) := by
  cases d <;> simp [nameP] at h
  rfl
def rowsOf : D → List D
  | .tup rows => rows
  | _ => []
def isTup : D → Bool
  | .tup _ => true
  | _ => false
def namedP (d : D) : Bool := isTup d && (rowsOf d).all pairP && (rowsOf d).all (fun r => nameP (fstD r)) && ascS ((rowsOf d).map fun r => sD (fstD r))
/-- good data of at most this size -/
structure Ok (n : Nat) (d : D) : Prop where
  g : gd n d = true
  w : wgt d ≤ big
  p : dep d ≤ 60
theorem dep_mem {ds : List D} {d : D} {k : Nat} (h : d ∈ ds) (hk : PyData.depthAll (pys ds) ≤ k) : dep d ≤ k := depAll_le.mpr hk d h
theorem Ok.row {n : Nat} {rows : List D} (h : Ok n (.tup rows)) {r : D} (hr : r ∈ rows) : Ok n r := by
  refine ⟨gds_mem.mp (by simpa [gd] using h.g) r hr, ?_, ?_⟩
  · have := wgt_mem hr
    have hw : PyData.weightAll (pys rows) ≤ big := h.w
    omega
  · have hp : PyData.depthAll (pys rows) + 1 ≤ 60 := h.p
    exact dep_mem hr (by omega)
theorem Ok.len {n : Nat} {rows : List D} (h : Ok n (.tup rows)) : rows.length ≤ big := by
  have hw : PyData.weightAll (pys rows) ≤ big := h.w
  have := len_pys rows
  omega
theorem big_le : big ≤ sizeLine := by decide
theorem Ok.fst {n : Nat} {d : D} (h : Ok n d) : Ok n (fstD d) := by
  have z : Ok n D.non := ⟨rfl, by decide, by decide⟩
  cases d <;> try exact z
  rename_i ds
  cases ds with
  | nil => exact z
  | cons a r => exact h.row (r := a) (by simp)
theorem Ok.snd {n : Nat} {d : D} (h : Ok n d) : Ok n (sndD d) := by
  have z : Ok n D.non := ⟨rfl, by decide, by decide⟩
  cases d <;> try exact z
  rename_i ds
  match ds with
  | [] => exact z
  | [a] => exact z
  | a :: b :: r => exact h.row (r := b) (by simp)
theorem names_str {rows : List D} (h : rows.all (fun r => nameP (fstD r)) = true) : rows.map fstD = (rows.map fun r => sD (fstD r)).map D.str := by
  rw [List.map_map]
  refine List.map_congr_left fun r hr => ?_
  exact nameP_str (List.all_eq_true.mp h r hr)
theorem eqInt (n : Nat) (m : Int) (S : Store) : eqD (.int n) (.int m) S = .ok (.bl ((n : Int) == m)) S := eqD_int _ _ S
def formP (d : D) : Bool := namedP d && (rowsOf d).all (fun r => kindP (sndD r))
theorem namedP_inv {d : D} (h : namedP d = true) : ∃ rows, d = .tup rows ∧ (∀ r ∈ rows, ∃ x b, r = .tup [.str x, b]) := by
  cases d <;> simp [namedP, isTup] at h
  rename_i rows
  refine ⟨rows, rfl, fun r hr => ?_⟩
  obtain ⟨⟨h1, h2⟩, _⟩ := h
  obtain ⟨a, b, rfl⟩ := pairP_inv (h1 r hr)
  have := nameP_str (h2 _ hr)
  simp only [fstD] at this
  exact ⟨sD a, b, by rw [← this]⟩
def isStr : D → Bool
  | .str _ => true
  | _ => false
def linkP (ns : List Str) (e : D) : Bool := !(isStr (sndD e)) || decide (sD (sndD e) ∈ ns)
def linksP (ns : List Str) (form : D) : Bool := (rowsOf form).all (linkP ns)
def namesOf (d : D) : List Str := (rowsOf d).map fun r => sD (fstD r)
def schemaP (d : D) : Bool := namedP d && !(rowsOf d).isEmpty && (rowsOf d).all (fun r => formP (sndD r)) && (rowsOf d).all (fun r => linksP (namesOf d) (sndD r))
theorem strsOf_map : ∀ xs : List Str, strsOf (xs.map D.str) = some xs
  | [] => rfl
  | x :: xs => by simp [strsOf, strOf, strsOf_map xs]
theorem in_names (x : Str) (ns : List Str) (S : Store) : inD false (.str x) (.lst (ns.map D.str)) S = .ok (.bl (decide (x ∈ ns))) S := by
  simp [inD, seqLT, seqL, seqM, bd, pur, opt, strsOf_map]
theorem notin_names (x : Str) (ns : List Str) (S : Store) : inD true (.str x) (.lst (ns.map D.str)) S = .ok (.bl (!decide (x ∈ ns))) S := by
  simp [inD, seqLT, seqL, seqM, bd, pur, opt, strsOf_map]
theorem n12 : ¬ ((.inr "cells" : Key) = .inr "at") := by decide +kernel
theorem n13 : ¬ ((.inr "cells" : Key) = .inr "left") := by decide +kernel
theorem n14 : ¬ ((.inr "cells" : Key) = .inr "count") := by decide +kernel
theorem n23 : ¬ ((.inr "at" : Key) = .inr "left") := by decide +kernel
theorem n24 : ¬ ((.inr "at" : Key) = .inr "count") := by decide +kernel
theorem n34 : ¬ ((.inr "left" : Key) = .inr "count") := by decide +kernel
theorem n21 : ¬ ((.inr "at" : Key) = .inr "cells") := by decide +kernel
theorem n31 : ¬ ((.inr "left" : Key) = .inr "cells") := by decide +kernel
theorem n41 : ¬ ((.inr "count" : Key) = .inr "cells") := by decide +kernel
theorem n32 : ¬ ((.inr "left" : Key) = .inr "at") := by decide +kernel
theorem n42 : ¬ ((.inr "count" : Key) = .inr "at") := by decide +kernel
theorem n43 : ¬ ((.inr "count" : Key) = .inr "left") := by decide +kernel
def kvs (cells a l c : D) : List (Key × D) := [(.inr "cells", cells), (.inr "at", a), (.inr "left", l), (.inr "count", c)]
theorem v1 (x a l c : D) : valD (kvs x a l c) (.inr "cells") = some x := by simp [valD, kvs]
theorem v2 (x a l c : D) : valD (kvs x a l c) (.inr "at") = some a := by simp only [valD, kvs, List.find?_cons, decide_eq_false n12, decide_true, Option.map_some]
theorem v3 (x a l c : D) : valD (kvs x a l c) (.inr "left") = some l := by simp only [valD, kvs, List.find?_cons, decide_eq_false n13, decide_eq_false n23, decide_true, Option.map_some]
theorem v4 (x a l c : D) : valD (kvs x a l c) (.inr "count") = some c := by simp only [valD, kvs, List.find?_cons, decide_eq_false n14, decide_eq_false n24, decide_eq_false n34, decide_true, Option.map_some]
theorem p2 (x a l c d : D) : putD (kvs x a l c) (.inr "at") d = kvs x d l c := by
  simp only [putD, kvs, List.any_cons, List.map_cons, List.map_nil, if_neg n12, if_neg n32, if_neg n42, if_true, decide_true, Bool.or_true, Bool.true_or]
theorem p3 (x a l c d : D) : putD (kvs x a l c) (.inr "left") d = kvs x a d c := by
  simp only [putD, kvs, List.any_cons, List.map_cons, List.map_nil, if_neg n13, if_neg n23, if_neg n43, if_true, decide_true, Bool.or_true, Bool.true_or]
theorem p4 (x a l c d : D) : putD (kvs x a l c) (.inr "count") d = kvs x a l d := by
  simp only [putD, kvs, List.any_cons, List.map_cons, List.map_nil, if_neg n14, if_neg n24, if_neg n34, if_true, decide_true, Bool.or_true, Bool.true_or]
section
variable {x a l c : D} {R : Store} {env : Fx.Env} (h0 : env[0]? = some (some (.obj 0)))
include h0
abbrev St (x a l c : D) (R : Store) : Store := some (.dct (kvs x a l c)) :: R
theorem get_ok {k : Str} {d : D} (hv : valD (kvs x a l c) (.inr k) = some d) : bin dgetD (getv 0) (fun _ => pur (.str k)) env (St x a l c R) = .ok d (St x a l c R) := by
  rw [bin_ok (getv_ok h0) rfl]
  simp only [dgetD, objK, bd, List.getElem?_cons_zero, keyOf, opt, hv, pur]
theorem put_ok {k : Str} {f : Fx.Env → M D} {d : D} {x' a' l' c' : D} (hp : putD (kvs x a l c) (.inr k) d = kvs x' a' l' c') (hf : f env (St x a l c R) = .ok d (St x a l c R)) :
    dput (getv 0) (fun _ => pur (.str k)) f env (St x a l c R) = .ok (.nx env) (St x' a' l' c' R) := by
  have e1 : getv 0 env (St x a l c R) = .ok (.obj 0) (St x a l c R) := getv_ok h0
  simp only [dput, lft, hf, e1, pur, objK, List.getElem?_cons_zero, keyOf, opt, hp, if_pos (show (kvs x a l c).length < sizeLine from by show 4 < 16777216; decide), List.set_cons_zero]
end
/-- what a feed is -/
def Fd (S : Store) (R : Store) : Prop := ∃ (cells : List Int) (a l c : Nat), cells.length ≤ 63 ∧ S = St (.lst (cells.map .int)) (.int a) (.int l) (.int c) R
theorem ne_cells (cells : List Int) (S : Store) : neD (.lst (cells.map .int)) (.lst []) S = .ok (.bl (!cells.isEmpty)) S := by
  obtain ⟨n, hn⟩ : ∃ n, gds n (cells.map D.int) = true := by
    induction cells with
    | nil => exact ⟨0, rfl⟩
    | cons c cs ih =>
      obtain ⟨n, hn⟩ := ih
      refine ⟨max c.natAbs n, ?_⟩
      simp only [List.map_cons, gds, gd, Bool.and_eq_true, decide_eq_true_eq]
      exact ⟨Nat.le_max_left _ _, gds_mono (Nat.le_max_right _ _) _ hn⟩
  rw [neD_eq (n := n) (m := 0)]
  · rw [eqP_nilL, isEmpty_map']
  · simpa [gd] using hn
  · rfl
  · refine Nat.le_trans (dep_lst (k := 0) fun d hd => ?_) (by decide)
    obtain ⟨i, hi, rfl⟩ := List.mem_map.mp hd
    exact Nat.le_refl _
  · show 1 ≤ 64; decide
theorem toNat_fmod {i : Int} {m : Nat} (h : 0 < m) : ∃ r : Nat, r < m ∧ i.fmod m = r := by
  have h1 := Int.fmod_nonneg_of_pos i (show (0 : Int) < m by omega)
  have h2 := Int.fmod_lt_of_pos i (show (0 : Int) < m by omega)
  exact ⟨(i.fmod m).toNat, by omega, by omega⟩
theorem mod_ok {i j : Int} {S : Store} (h : j ≠ 0) : modD (.int i) (.int j) S = .ok (.int (i.fmod j)) S := by simp only [modD, if_pos h, pur]
theorem div_ok {i j : Int} {S : Store} (h : j ≠ 0) (h2 : j.natAbs < 1073741824) : fdivD (.int i) (.int j) S = .ok (.int (i.fdiv j)) S := by simp only [fdivD, if_pos (And.intro h h2), pur]
theorem mul_ok {i j : Int} {S : Store} (h : (-(2 ^ 64) < i ∧ i < 2 ^ 64) ∨ (-(2 ^ 64) < j ∧ j < 2 ^ 64)) : mulD (.int i) (.int j) S = .ok (.int (i * j)) S := by simp only [mulD, if_pos h, pur]
theorem int_ok {i : Int} {S : Store} : intD [.int i] S = .ok (.int i) S := rfl
theorem addi_ok {mk : List D → M D} {i j : Int} {S : Store} : addD mk (.int i) (.int j) S = .ok (.int (i + j)) S := rfl
theorem b64 {i : Nat} (h : i < 2147483648) : -(2 ^ 64) < (i : Int) ∧ (i : Int) < 2 ^ 64 := by constructor <;> omega
theorem k_ok {d : D} {env : Fx.Env} {S : Store} : (fun _ => pur d : Fx.Env → M D) env S = .ok d S := rfl
theorem bink {g : D → D → M D} {f1 : Fx.Env → M D} {env : Fx.Env} {S : Store} {a d : D} (h1 : f1 env S = .ok a S) : bin g f1 (fun _ => pur d) env S = g a d S := bin_ok h1 rfl
theorem kbin {g : D → D → M D} {f1 : Fx.Env → M D} {env : Fx.Env} {S : Store} {a d : D} (h1 : f1 env S = .ok a S) : bin g (fun _ => pur d) f1 env S = g d a S := bin_ok (f1 := fun _ => pur d) rfl h1
theorem kbink {g : D → D → M D} {env : Fx.Env} {S : Store} {a d : D} : bin g (fun _ => pur a) (fun _ => pur d) env S = g a d S := bin_ok (f1 := fun _ => pur a) (f2 := fun _ => pur d) rfl rfl
theorem pow18 {S : Store} : powD (.int 10) (.int 18) S = .ok (.int 1000000000000000000) S := by
  simp only [powD]
  rw [if_pos (by decide)]
  rfl
theorem ite_t {p : Fx.Env → M Bool} {f g : Fx.Env → M D} {env : Fx.Env} {S S' : Store} (h : p env S = .ok true S') : iteV p f g env S = f env S' := by simp only [iteV, bd, h, if_true]
theorem ite_f {p : Fx.Env → M Bool} {f g : Fx.Env → M D} {env : Fx.Env} {S S' : Store} (h : p env S = .ok false S') : iteV p f g env S = g env S' := by simp [iteV, bd, h]
theorem and_tt {f g : Fx.Env → M Bool} {env : Fx.Env} {S S' : Store} (h : f env S = .ok true S') : andB f g env S = g env S' := by simp only [andB, bd, h, if_true]
theorem and_ff {f g : Fx.Env → M Bool} {env : Fx.Env} {S S' : Store} (h : f env S = .ok false S') : andB f g env S = .ok false S' := by simp [andB, bd, h, pur]
theorem len_lst {ds : List D} {S : Store} : lenD [.lst ds] S = .ok (.int ds.length) S := rfl
structure In (N W P : Nat) (d : D) : Prop where
  g : gd N d = true
  w : wgt d ≤ W
  p : dep d ≤ P
theorem In.mono {N W P N' W' P' : Nat} {d : D} (h : In N W P d) (h1 : N ≤ N') (h2 : W ≤ W') (h3 : P ≤ P') : In N' W' P' d := ⟨gd_mono h1 d h.g, Nat.le_trans h.w h2, Nat.le_trans h.p h3⟩
abbrev sw (ds : List D) : Nat := PyData.weightAll (pys ds)
theorem sw_cons (d : D) (ds : List D) : sw (d :: ds) = wgt d + 1 + sw ds := by simp [sw, pys, PyData.weightAll, wgt]
theorem sw_nil : sw [] = 0 := rfl
theorem sw_app : ∀ xs ys : List D, sw (xs ++ ys) = sw xs + sw ys
  | [], ys => by simp [sw_nil]
  | x :: xs, ys => by rw [List.cons_append, sw_cons, sw_cons, sw_app xs ys]; omega
theorem sw_rev : ∀ xs : List D, sw xs.reverse = sw xs
  | [] => rfl
  | x :: xs => by rw [List.reverse_cons, sw_app, sw_rev xs, sw_cons, sw_cons, sw_nil]; omega
theorem sw_sub {xs ys : List D} (h : xs.Sublist ys) : sw xs ≤ sw ys := by
  induction h with
  | slnil => exact Nat.le_refl _
  | cons a _ ih => rw [sw_cons]; omega
  | cons_cons a _ ih => rw [sw_cons, sw_cons]; omega
theorem cut_sub (xs : List D) (lo hi : Option Int) : (cutD xs lo hi).Sublist xs := (List.take_sublist _ _).trans (List.drop_sublist _ _)
theorem In.tup {N W P : Nat} {ds : List D} (h : ∀ d ∈ ds, gd N d = true ∧ dep d ≤ P) (hw : sw ds ≤ W) : In N W (P + 1) (.tup ds) :=
  ⟨by rw [gd, gds_mem]; exact fun d hd => (h d hd).1, hw, dep_tup fun d hd => (h d hd).2⟩
theorem In.lst {N W P : Nat} {ds : List D} (h : ∀ d ∈ ds, gd N d = true ∧ dep d ≤ P) (hw : sw ds ≤ W) : In N W (P + 1) (.lst ds) :=
  ⟨by rw [gd, gds_mem]; exact fun d hd => (h d hd).1, hw, dep_lst fun d hd => (h d hd).2⟩
theorem In.tup_inv {N W P : Nat} {ds : List D} (h : In N W P (.tup ds)) : ∃ Q, P = Q + 1 ∧ (∀ d ∈ ds, gd N d = true ∧ dep d ≤ Q) ∧ sw ds ≤ W := by
  have hp : PyData.depthAll (pys ds) + 1 ≤ P := h.p
  refine ⟨P - 1, by omega, fun d hd => ⟨gds_mem.mp (by simpa [gd] using h.g) d hd, dep_mem hd (by omega)⟩, h.w⟩
theorem wgt_int {i : Int} {k : Nat} (h : i.natAbs < 2 ^ k) : wgt (.int i) ≤ k := by
  simp only [wgt, py, PyData.weight]
  split
  · omega
  · rename_i h0
    have : i.natAbs ≠ 0 := by intro z; apply h0; simp; omega
    have := (Nat.log2_lt this).mpr h
    omega
theorem In.int {i : Int} {N : Nat} (h : i.natAbs ≤ N) (hN : N < 1073741824) (W P : Nat) (hW : 30 ≤ W) : In N W P (.int i) :=
  ⟨by simp [gd, h], Nat.le_trans (wgt_int (k := 30) (by omega)) hW, Nat.zero_le _⟩
theorem all_lt {x : Str} : x.cps.all (· < 128) = true ↔ ∀ c ∈ x.cps.toList, c < 128 := by
  rw [← Array.all_toList, List.all_eq_true]; simp
theorem In.str {x : Str} {N W P : Nat} (h : ∀ c ∈ x.cps.toList, c < 128) (hw : x.length ≤ W) : In N W P (.str x) := ⟨by rw [gd]; exact all_lt.mpr h, hw, Nat.zero_le _⟩
theorem cutS_mem {z : Str} {lo hi : Option Int} {c : Nat} (h : c ∈ (L2.cutS z lo hi).cps.toList) : c ∈ z.cps.toList := by
  simp only [L2.cutS] at h
  exact List.mem_of_mem_drop (List.mem_of_mem_take h)
theorem cutS_len (z : Str) (lo hi : Option Int) : (L2.cutS z lo hi).length ≤ z.length := by
  simp only [L2.cutS, Str.length, List.size_toArray, List.length_take, List.length_drop, Array.length_toList]; omega
theorem up128 : ∀ c, c < 128 → ∀ u ∈ Unicode.upperOf c, u < 128 := by decide +kernel
theorem upper_mem {z : Str} (hz : ∀ c ∈ z.cps.toList, c < 128) {u : Nat} (h : u ∈ (Txt.upper z).cps.toList) : u < 128 := by
  simp only [Txt.upper, placed, Array.mem_toList_iff, Array.mem_flatten, Array.mem_mapIdx] at h
  obtain ⟨xs, ⟨i, hi, rfl⟩, hu⟩ := h
  exact up128 _ (hz z.cps[i] (Array.mem_toList_iff.mpr (Array.getElem_mem hi))) u (by simpa using hu)
theorem app_mem {a b : Str} {c : Nat} (h : c ∈ (a ++ b).cps.toList) : c ∈ a.cps.toList ∨ c ∈ b.cps.toList := by
  rw [Str.cps_append] at h; simpa using h
theorem int_mem {i : Int} {c : Nat} (h : c ∈ (Str.ofString (toString i)).cps.toList) : c < 128 := by
  rw [Str.ofString_eq_toList] at h
  obtain ⟨ch, h1, rfl⟩ := List.mem_map.mp (by simpa using h)
  exact int_ascii i ch h1
theorem int_len {i : Int} (h : i.natAbs < 1073741824) : (Str.ofString (toString i)).length ≤ 31 := by
  rw [ofString_length]
  refine int_text_length_le (k := 30) (by decide) ?_
  by_cases h0 : i.natAbs = 0
  · rw [h0]; decide
  · exact (Nat.log2_lt h0).mpr (by omega)
theorem cal2_ok {f1 f2 : Fx.Env → M D} {g : List D → M D} {env : Fx.Env} {S : Store} {a b : D} (h1 : f1 env S = .ok a S) (h2 : f2 env S = .ok b S) : cal (cns f1 (cns f2 (fun _ => pur []))) g env S = g [a, b] S := by
  simp only [cal, cns, bd, h1, h2, pur]
theorem ix_nat {xs : List D} {r : Nat} {S : Store} (h : r < xs.length) : ixD (.lst xs) (.int r) S = .ok xs[r] S := ix_lst rfl (List.getElem?_eq_getElem h)
theorem bin_okS {g : D → D → M D} {f1 f2 : Fx.Env → M D} {env : Fx.Env} {S S1 S' : Store} {a b : D} (h1 : f1 env S = .ok a S1) (h2 : f2 env S1 = .ok b S') : bin g f1 f2 env S = g a b S' := by
  simp only [Fx.bin, bd, h1, h2]
theorem ret_okS {f : Fx.Env → M D} {env : Fx.Env} {S S' : Store} {a : D} (h1 : f env S = .ok a S') : Fx.ret f env S = .ok (.rt a) S' := by
  simp only [Fx.ret, lft, h1]
theorem sz (n : Nat) (h : n ≤ 300000) : n ≤ sizeLine := Nat.le_trans h (by decide)
theorem cut_take {ds : List D} {s : Nat} (h : s ≤ ds.length) : cutD ds none (some (s : Int)) = ds.take s := by
  unfold cutD
  rw [HT.sIx_none, HT.sIx_nat, Nat.min_eq_left h]; simp
theorem cut_drop {ds : List D} {s : Nat} (h : s ≤ ds.length) : cutD ds (some (s : Int)) none = ds.drop s := by
  unfold cutD
  rw [HT.sIx_none, HT.sIx_nat, Nat.min_eq_left h, List.take_of_length_le (by simp)]
theorem Fd.get {S R : Store} (h : Fd S R) (n : Nat) : S[n + 1]? = R[n]? := by obtain ⟨_, _, _, _, _, rfl⟩ := h; rfl
theorem Fd.len {S R : Store} (h : Fd S R) : S.length = R.length + 1 := by obtain ⟨_, _, _, _, _, rfl⟩ := h; rfl
theorem Fd.app {S R : Store} (h : Fd S R) (o : Option OD) : Fd (S ++ [o]) (R ++ [o]) := by obtain ⟨c, a, l, k, hc, rfl⟩ := h; exact ⟨c, a, l, k, hc, rfl⟩
theorem Fd.set {S R : Store} (h : Fd S R) (n : Nat) (o : Option OD) : Fd (S.set (n + 1) o) (R.set n o) := by obtain ⟨c, a, l, k, hc, rfl⟩ := h; exact ⟨c, a, l, k, hc, rfl⟩
abbrev row (q : Str × D) : D := .tup [.str q.1, q.2]
abbrev emb (q : Str × D) : Key × D := (.inr q.1, q.2)
theorem pairsK_map : ∀ ps : List (Str × D), pairsK (ps.map row) = some (ps.map emb)
  | [] => rfl
  | p :: ps => by simp [pairsK, keyOf, pairsK_map ps]
theorem putD_mem {kvs : List (Key × D)} {k : Key} {d : D} {kv : Key × D} (h : kv ∈ putD kvs k d) : kv ∈ kvs ∨ kv = (k, d) := by
  unfold putD at h
  split at h
  · obtain ⟨x, hx, e⟩ := List.mem_map.mp h
    split at e
    · rename_i q; subst e; right; rw [q]
    · subst e; exact .inl hx
  · simpa using h
theorem putD_len (kvs : List (Key × D)) (k : Key) (d : D) : (putD kvs k d).length ≤ kvs.length + 1 := by
  unfold putD
  split <;> simp
theorem mergeD_mem : ∀ {more acc : List (Key × D)} {kv : Key × D}, kv ∈ mergeD acc more → kv ∈ acc ∨ kv ∈ more
  | [], _, _, h => .inl h
  | m :: more, acc, kv, h => by
    rcases mergeD_mem (more := more) (acc := putD acc m.1 m.2) h with h | h
    · rcases putD_mem h with h | h
      · exact .inl h
      · right; rw [h]; simp
    · right; exact List.mem_cons_of_mem _ h
theorem mergeD_len : ∀ (more acc : List (Key × D)), (mergeD acc more).length ≤ acc.length + more.length
  | [], _ => Nat.le_refl _
  | m :: more, acc => by
    have h1 := mergeD_len more (putD acc m.1 m.2)
    have h2 := putD_len acc m.1 m.2
    simp only [List.length_cons]
    show (mergeD (putD acc m.1 m.2) more).length ≤ _
    omega
theorem embs : ∀ {kvs : List (Key × D)}, (∀ kv ∈ kvs, ∃ x : Str, kv.1 = .inr x) → ∃ qs : List (Str × D), kvs = qs.map emb
  | [], _ => ⟨[], rfl⟩
  | (k, d) :: kvs, h => by
    obtain ⟨x, hx⟩ := h (k, d) (by simp)
    obtain ⟨qs, e⟩ := embs fun kv hkv => h kv (List.mem_cons_of_mem _ hkv)
    have hx : k = .inr x := hx
    subst hx
    exact ⟨(x, d) :: qs, by simp [e]⟩
theorem keysS_map : ∀ qs : List (Str × D), keysS (qs.map emb) = some (qs.map (·.1))
  | [] => rfl
  | q :: qs => by simp [keysS, keysS_map qs]
theorem valD_mem {qs : List (Str × D)} {x : Str} (h : x ∈ qs.map (·.1)) : ∃ d, valD (qs.map emb) (.inr x) = some d ∧ (x, d) ∈ qs := by
  induction qs with
  | nil => simp at h
  | cons q qs ih =>
    by_cases e : q.1 = x
    · refine ⟨q.2, ?_, ?_⟩
      · simp [valD, List.find?_cons, e]
      · rw [← e]; simp
    · obtain ⟨d, h1, h2⟩ := ih (by
        rcases List.mem_cons.mp h with z | z
        · exact absurd z.symm e
        · exact z)
      refine ⟨d, ?_, List.mem_cons_of_mem _ h2⟩
      have ne : ¬ ((.inr q.1 : Key) = .inr x) := fun z => e (Sum.inr.inj z)
      simp only [valD, List.map_cons, List.find?_cons, decide_eq_false ne] at h1 ⊢
      exact h1
theorem srt_mem {x : Str} {xs : List Str} (h : x ∈ srt xs) : x ∈ xs := (List.mergeSort_perm xs leS).mem_iff.mp h
theorem srt_len (xs : List Str) : (srt xs).length = xs.length := (List.mergeSort_perm xs leS).length_eq
theorem choose_map {α β : Type} {p : α → β → Prop} : ∀ {xs : List α}, (∀ x ∈ xs, ∃ y, p x y) → ∃ f : α → Option β, ∀ x ∈ xs, ∃ y, f x = some y ∧ p x y := by
  intro xs h
  classical
  refine ⟨fun x => if hx : ∃ y, p x y then some (Classical.choose hx) else none, fun x hx => ?_⟩
  have := h x hx
  exact ⟨Classical.choose this, dif_pos this, Classical.choose_spec this⟩
theorem loop_st {t : D → Fx.Env → Option Fx.Env} {b : Fx.Env → MS} (Iv : Nat → Fx.Env → Store → Prop) (n : Nat) (q : D → Prop) : ∀ (ds : List D) (i : Nat) (env : Fx.Env) (S : Store), i + ds.length = n → (∀ d ∈ ds, q d) → Iv i env S →
    (∀ i < n, ∀ d, q d → ∀ env S, Iv i env S → ∃ env1, t d env = some env1 ∧ ∃ env2 S2, b env1 S = .ok (.nx env2) S2 ∧ Iv (i + 1) env2 S2) → ∃ env' S', loop t b ds env S = .ok (.nx env') S' ∧ Iv n env' S'
  | [], i, env, S, hi, _, h, _ => by
    have : i = n := by simpa using hi
    subst this
    exact ⟨env, S, rfl, h⟩
  | d :: ds, i, env, S, hi, hq, h, step => by
    obtain ⟨env1, h1, env2, S2, h2, h3⟩ := step i (by simp at hi; omega) d (hq d (by simp)) env S h
    obtain ⟨env', S', h4, h5⟩ := loop_st Iv n q ds (i + 1) env2 S2 (by simp at hi; omega) (fun d hd => hq d (List.mem_cons_of_mem _ hd)) h3 step
    refine ⟨env', S', ?_, h5⟩
    unfold loop
    simp only [h1, h2, h4]
theorem comp_st {t : D → Fx.Env → Option Fx.Env} {el : Fx.Env → M D} {env0 : Fx.Env} (Iv : Nat → Store → Prop) (n : Nat) (p : D → Prop) : ∀ (ds acc : List D) (i : Nat) (S : Store), i + ds.length = n → acc.length + ds.length ≤ sizeLine → Iv i S →
    (∀ i < n, ∀ d S, Iv i S → ∃ env1, t d env0 = some env1 ∧ ∃ y S2, el env1 S = .ok y S2 ∧ p y ∧ Iv (i + 1) S2) →
    ∃ ys S', compL mkL t (fun _ => pur true) el env0 ds acc S = .ok (.lst (acc ++ ys)) S' ∧ ys.length = ds.length ∧ (∀ y ∈ ys, p y) ∧ Iv n S'
  | [], acc, i, S, hi, hl, h, _ => by
    have : i = n := by simpa using hi
    subst this
    refine ⟨[], S, ?_, rfl, by simp, h⟩
    unfold compL
    rw [mkL_ok (by simpa using hl)]; simp
  | d :: ds, acc, i, S, hi, hl, h, step => by
    obtain ⟨env1, h1, y, S2, h2, h3, h4⟩ := step i (by simp at hi; omega) d S h
    obtain ⟨ys, S', k1, k2, k3, k4⟩ := comp_st Iv n p ds (acc ++ [y]) (i + 1) S2 (by simp at hi; omega) (by simp at hl ⊢; omega) h4 step
    refine ⟨y :: ys, S', ?_, by simp [k2], fun z hz => (List.mem_cons.mp hz).elim (fun e => e ▸ h3) (k3 z), k4⟩
    unfold compL
    have hl2 : acc.length < sizeLine := by simp at hl; omega
    simp only [h1, bdN, pur, if_true, h2, if_pos hl2, k1, List.append_assoc, List.singleton_append]
/-- the objects of R stand unchanged in R' -/
def Ext (R R' : Store) : Prop := R.length ≤ R'.length ∧ ∀ n < R.length, R'[n]? = R[n]?
theorem Ext.refl (R : Store) : Ext R R := ⟨Nat.le_refl _, fun _ _ => rfl⟩
theorem Ext.trans {A B C : Store} (h : Ext A B) (g : Ext B C) : Ext A C := ⟨Nat.le_trans h.1 g.1, fun n hn => (g.2 n (Nat.lt_of_lt_of_le hn h.1)).trans (h.2 n hn)⟩
theorem Ext.app (R : Store) (l : Store) : Ext R (R ++ l) := ⟨by simp, fun n hn => List.getElem?_append_left hn⟩
theorem Ext.set {R R' : Store} (h : Ext R R') {n : Nat} (hn : R.length ≤ n) (o : Option OD) : Ext R (R'.set n o) := ⟨by rw [List.length_set]; exact h.1, fun m hm => by rw [List.getElem?_set_ne (by omega)]; exact h.2 m hm⟩
theorem ixN_nat {k n : Nat} (h : k < n) : ixN n (k : Int) = some k := by
  unfold ixN
  rw [if_pos (by omega), if_pos (by omega)]; rfl
theorem appd_ok {i n : Nat} {env : Fx.Env} {S S1 R R1 : Store} {xs0 xs : List D} {e : Fx.Env → M D} {y : D} (hi : env[i]? = some (some (.obj (n + 1)))) (hF : Fd S R) (hR : R[n]? = some (some (.lst xs0))) (he : e env S = .ok y S1) (hF1 : Fd S1 R1) (hR1 : R1[n]? = some (some (.lst xs))) (hx : xs.length < 1000) :
    Fd (S1.set (n + 1) (some (.lst (xs ++ [y])))) (R1.set n (some (.lst (xs ++ [y])))) ∧ drop (met (getv i) (cns e (fun _ => pur [])) appD) env S = .ok (.nx env) (S1.set (n + 1) (some (.lst (xs ++ [y])))) := by
  have hS : S[n + 1]? = some (some (.lst xs0)) := by rw [hF.get]; exact hR
  have hS1 : S1[n + 1]? = some (some (.lst xs)) := by rw [hF1.get]; exact hR1
  refine ⟨hF1.set _ _, ?_⟩
  have g1 : getv i env S = .ok (.obj (n + 1)) S := getv_ok hi
  have hl : xs.length < sizeLine := Nat.lt_trans hx (by decide)
  simp only [drop, lft, met, bd, g1, objL, hS, cns, he, pur, hS1, appD, if_pos hl, putL]
theorem extd_ok {i n : Nat} {env : Fx.Env} {S S1 R R1 : Store} {xs0 xs ys : List D} {e : Fx.Env → M D} (hi : env[i]? = some (some (.obj (n + 1)))) (hF : Fd S R) (hR : R[n]? = some (some (.lst xs0))) (he : e env S = .ok (.lst ys) S1) (hF1 : Fd S1 R1) (hR1 : R1[n]? = some (some (.lst xs))) (hx : xs.length + ys.length ≤ 1000000) :
    Fd (S1.set (n + 1) (some (.lst (xs ++ ys)))) (R1.set n (some (.lst (xs ++ ys)))) ∧ drop (met (getv i) (cns e (fun _ => pur [])) extD) env S = .ok (.nx env) (S1.set (n + 1) (some (.lst (xs ++ ys)))) := by
  have hS : S[n + 1]? = some (some (.lst xs0)) := by rw [hF.get]; exact hR
  have hS1 : S1[n + 1]? = some (some (.lst xs)) := by rw [hF1.get]; exact hR1
  refine ⟨hF1.set _ _, ?_⟩
  have g1 : getv i env S = .ok (.obj (n + 1)) S := getv_ok hi
  have hl : xs.length + ys.length ≤ sizeLine := Nat.le_trans hx (by decide)
  simp only [drop, lft, met, bd, g1, objL, hS, cns, he, pur, hS1, extD, seqM, if_pos hl, putL]
def okN (x : Str) : Prop := (∀ c ∈ x.cps.toList, c < 128) ∧ x.length ≤ 8
theorem okN_list {l : List Str} (h : (l.all fun x => x.cps.all (· < 128) && decide (x.length ≤ 8)) = true) : ∀ x ∈ l, okN x := fun x hx => by
  have := List.all_eq_true.mp h x hx
  simp only [Bool.and_eq_true, decide_eq_true_eq] at this
  exact ⟨all_lt.mp this.1, this.2⟩
abbrev Form : Type := Str × List (Str × D)
abbrev frow (f : Form) : D := .tup [.str f.1, .tup (f.2.map row)]
theorem mkN_ok {f : Fx.Env → M (List D)} {env : Fx.Env} {S : Store} {ds : List D} (h : f env S = .ok ds S) (hl : ds.length ≤ sizeLine) : dsp mkN f env S = .ok (.obj S.length) (S ++ [some (.lst ds)]) := by
  simp only [dsp, bd, h, mkN, if_pos hl, mkO]
theorem cal1_okS {f : Fx.Env → M D} {g : List D → M D} {env : Fx.Env} {S S1 : Store} {a : D} (h : f env S = .ok a S1) : cal (cns f (fun _ => pur [])) g env S = g [a] S1 := by
  simp only [cal, cns, bd, h, pur]
theorem strsOf_mem : ∀ {ys : List D}, (∀ y ∈ ys, ∃ x, y = .str x ∧ okN x) → ∃ xs : List Str, ys = xs.map .str ∧ ∀ x ∈ xs, okN x
  | [], _ => ⟨[], rfl, by simp⟩
  | y :: ys, h => by
    obtain ⟨x, rfl, hx⟩ := h y (by simp)
    obtain ⟨xs, rfl, hxs⟩ := strsOf_mem fun y hy => h y (List.mem_cons_of_mem _ hy)
    exact ⟨x :: xs, rfl, fun z hz => (List.mem_cons.mp hz).elim (fun e => e ▸ hx) (hxs z)⟩
def asc (x : Str) : Prop := ∀ c ∈ x.cps.toList, c < 128
theorem asc.app {a b : Str} (h : asc a) (g : asc b) : asc (a ++ b) := fun c hc => (app_mem hc).elim (h c) (g c)
theorem asc_of {x : Str} (h : x.cps.all (· < 128) = true) : asc x := all_lt.mp h
theorem textFrom_asc : ∀ (ts : List Str) (k : Nat) (acc : Str), asc acc → (∀ t ∈ ts, asc t) → asc (textFrom k acc ts)
  | [], k, acc, h, _ => h
  | t :: r, k, acc, h, g => by
    have h1 : asc (if k > 0 then (", " : Str) else ("" : Str)) := by
      split <;> exact asc_of (by decide +kernel)
    have h2 : asc (acc ++ (if k > 0 then ", " else "" : String) ++ t) := by
      refine (h.app ?_).app (g t (by simp))
      split <;> exact asc_of (by decide +kernel)
    exact textFrom_asc r (k + 1) _ h2 fun t ht => g t (List.mem_cons_of_mem _ ht)
theorem listText_asc {ts : List Str} (h : ∀ t ∈ ts, asc t) : asc (listText ts) := (textFrom_asc ts 0 "[" (asc_of (by decide +kernel)) h).app (asc_of (by decide +kernel))
theorem join_asc : ∀ ts : List Str, (∀ t ∈ ts, asc t) → asc (Str.join ", " ts)
  | [], _ => asc_of (by decide +kernel)
  | [x], h => h x (by simp)
  | x :: y :: r, h => by
    show asc (x ++ ", " ++ Str.join ", " (y :: r))
    exact ((h x (by simp)).app (asc_of (by decide +kernel))).app (join_asc (y :: r) fun t ht => h t (List.mem_cons_of_mem _ ht))
theorem tupleText_asc {ts : List Str} (h : ∀ t ∈ ts, asc t) : asc (tupleText ts) := by
  unfold tupleText
  refine ((asc_of (by decide +kernel) : asc ("(" : Str)).app (join_asc ts h)).app ?_
  split <;> exact asc_of (by decide +kernel)
theorem rc39 : ∀ c, c < 128 → ∀ u ∈ Builtin.Str.reprChar 39 c, u < 128 := by decide +kernel
theorem rc34 : ∀ c, c < 128 → ∀ u ∈ Builtin.Str.reprChar 34 c, u < 128 := by decide +kernel
theorem reprQ (x : Str) : reprQuote x = 39 ∨ reprQuote x = 34 := by
  unfold reprQuote
  split
  · exact .inr rfl
  · exact .inl rfl
theorem fold_asc (q : Nat) (hq : ∀ c, c < 128 → ∀ u ∈ Builtin.Str.reprChar q c, u < 128) : ∀ (l : List Nat) (acc : Array Nat), (∀ c ∈ l, c < 128) → (∀ c ∈ acc.toList, c < 128) → ∀ c ∈ (l.foldl (fun out c => out ++ (Builtin.Str.reprChar q c).toArray) acc).toList, c < 128
  | [], acc, _, h => h
  | d :: l, acc, g, h => by
    refine fold_asc q hq l _ (fun c hc => g c (List.mem_cons_of_mem _ hc)) fun c hc => ?_
    simp only [Array.toList_append, List.mem_append] at hc
    exact hc.elim (h c) (hq d (g d (by simp)) c)
theorem reprText_asc {x : Str} (h : asc x) : asc (reprText x) := by
  have hq : ∀ c, c < 128 → ∀ u ∈ Builtin.Str.reprChar (reprQuote x) c, u < 128 := by
    rcases reprQ x with e | e <;> rw [e]
    · exact rc39
    · exact rc34
  have hb : reprQuote x < 128 := by rcases reprQ x with e | e <;> rw [e] <;> decide
  intro c hc
  simp only [reprText, Array.toList_push, List.mem_append, List.mem_singleton] at hc
  rcases hc with hc | hc
  · rw [← Array.foldl_toList] at hc
    exact fold_asc _ hq x.cps.toList #[reprQuote x] h (by intro c hc; simp at hc; omega) c hc
  · omega
abbrev big60 : Nat := 10 ^ 60 - 1
mutual
theorem shown_asc : ∀ d : D, gd big60 d = true → asc (py d).shown
  | .non, _ => asc_of (by decide +kernel)
  | .bl b, _ => by cases b <;> exact asc_of (by decide +kernel)
  | .int i, _ => fun c hc => int_mem hc
  | .str x, h => reprText_asc (asc_of (by simpa [gd] using h))
  | .lst ds, h => by
    simp only [py, PyData.shown]
    exact listText_asc (shownAll_asc ds (by simpa [gd] using h))
  | .tup ds, h => by
    simp only [py, PyData.shown]
    exact tupleText_asc (shownAll_asc ds (by simpa [gd] using h))
  | .obj _, h => by simp [gd] at h
  | .scr _, h => by simp [gd] at h
  | .err .., h => by simp [gd] at h
theorem shownAll_asc : ∀ ds : List D, gds big60 ds = true → ∀ t ∈ PyData.shownAll (pys ds), asc t
  | [], _ => by simp [pys, PyData.shownAll]
  | d :: ds, h => by
    have h : gd big60 d = true ∧ gds big60 ds = true := by simpa only [gds, Bool.and_eq_true] using h
    intro t ht
    simp only [pys, PyData.shownAll, List.mem_cons] at ht
    rcases ht with rfl | ht
    · exact shown_asc d h.1
    · exact shownAll_asc ds h.2 t ht
end
mutual
theorem showable_gd : ∀ d : D, gd big60 d = true → (py d).showable = true
  | .non, _ => rfl
  | .bl b, _ => rfl
  | .int i, h => by
    have h : i.natAbs ≤ big60 := by simpa only [gd, decide_eq_true_eq] using h
    simp only [py, PyData.showable, decide_eq_true_eq]
    by_cases h0 : i.natAbs = 0
    · rw [h0]; decide
    · exact Nat.lt_trans ((Nat.log2_lt (k := 200) h0).mpr (Nat.lt_of_le_of_lt h (by decide))) (by decide)
  | .str x, _ => rfl
  | .lst ds, h => by
    have := showable_gds ds (by simpa only [gd] using h)
    simpa only [py, PyData.showable] using this
  | .tup ds, h => by
    have := showable_gds ds (by simpa only [gd] using h)
    simpa only [py, PyData.showable] using this
  | .obj _, h => by simp [gd] at h
  | .scr _, h => by simp [gd] at h
  | .err .., h => by simp [gd] at h
theorem showable_gds : ∀ ds : List D, gds big60 ds = true → PyData.showableAll (pys ds) = true
  | [], _ => rfl
  | d :: ds, h => by
    have h : gd big60 d = true ∧ gds big60 ds = true := by simpa only [gds, Bool.and_eq_true] using h
    simp only [PyData.showableAll, pys, showable_gd d h.1, showable_gds ds h.2, Bool.and_self]
end
mutual
theorem short_gd : ∀ d : D, gd big60 d = true → (py d).intsShort 61 = true
  | .non, _ => rfl
  | .bl b, _ => rfl
  | .int i, h => by
    have h : i.natAbs ≤ big60 := by simpa only [gd, decide_eq_true_eq] using h
    simp only [py, PyData.intsShort, PyData.shown]
    refine decide_eq_true ?_
    show (Str.ofString (toString i)).length ≤ 61
    rw [ofString_length]
    exact int_text_length_le10 (k := 60) (by decide) (Nat.lt_of_le_of_lt h (by decide))
  | .str x, _ => rfl
  | .lst ds, h => by
    have := short_gds ds (by simpa only [gd] using h)
    simpa only [py, PyData.intsShort] using this
  | .tup ds, h => by
    have := short_gds ds (by simpa only [gd] using h)
    simpa only [py, PyData.intsShort] using this
  | .obj _, h => by simp [gd] at h
  | .scr _, h => by simp [gd] at h
  | .err .., h => by simp [gd] at h
theorem short_gds : ∀ ds : List D, gds big60 ds = true → PyData.intsShortAll 61 (pys ds) = true
  | [], _ => rfl
  | d :: ds, h => by
    have h : gd big60 d = true ∧ gds big60 ds = true := by simpa only [gds, Bool.and_eq_true] using h
    simp only [PyData.intsShortAll, pys, short_gd d h.1, short_gds ds h.2, Bool.and_self]
end
theorem repr_ok {d : D} {S : Store} (h : gd big60 d = true) (hw : wgt d ≤ 260000) (hd : dep d ≤ 64) : reprD [d] S = .ok (.str (py d).shown) S := by
  have hl := PyData.shown_le 61 (by decide) (py d) (PyData.leavesShort_of_canLay0 61 _ (lay_gd d h) (short_gd d h))
  have hs : shows (py d) := ⟨showable_gd d h, PyData.hasDict_of_canLay _ (lay_gd d h), hd, by
    have : (py d).weight ≤ 260000 := hw
    have e : (16777216 : Nat) ≤ sizeLine := by decide
    omega⟩
  simp only [reprD, bd, pyM_eq h, if_pos hs, pur]
theorem str_ne {x : Str} {S : Store} (h : asc x) : neD (.str x) (.str x) S = .ok (.bl false) S := by
  rw [neD_eq (n := 0) (m := 0) (by rw [gd]; exact all_lt.mpr h) (by rw [gd]; exact all_lt.mpr h) (Nat.zero_le _) (Nat.zero_le _)]
  simp [eqP, py, PyData.eqv]
theorem str_eq {x : Str} {S : Store} (h : asc x) : eqD (.str x) (.str x) S = .ok (.bl true) S := by
  rw [eqD_eq (n := 0) (m := 0) (by rw [gd]; exact all_lt.mpr h) (by rw [gd]; exact all_lt.mpr h) (Nat.zero_le _) (Nat.zero_le _)]
  simp [eqP, py, PyData.eqv]
theorem cut_all {ds : List D} {s : Nat} (h : ds.length ≤ s) : cutD ds none (some (s : Int)) = ds := by
  unfold cutD
  rw [HT.sIx_none, HT.sIx_nat, Nat.min_eq_right h]; simp
def resL (r : Rs D) : List D := match r with
  | .ok (.obj n) S => match S[n]? with
    | some (some (.lst ds)) => ds
    | _ => []
  | .ok (.lst ds) _ => ds
  | _ => []
def resO (r : Rs D) (n : Nat) : Option OD := match r with
  | .ok _ S => (S[n]?).getD none
  | _ => none
theorem sw_map_le {α : Type} (f : α → D) (w : Nat) : ∀ {xs : List α}, (∀ x ∈ xs, wgt (f x) ≤ w) → sw (xs.map f) ≤ xs.length * (w + 1)
  | [], _ => Nat.zero_le _
  | x :: xs, h => by
    have h1 := sw_map_le f w (xs := xs) fun y hy => h y (List.mem_cons_of_mem _ hy)
    have h2 := h x (by simp)
    rw [List.map_cons, sw_cons, List.length_cons, Nat.add_mul]; omega
theorem ix30 (a b c : D) (S : Store) : ixD (.tup [a, b, c]) (.int 0) S = .ok a S := rfl
theorem ix31 (a b c : D) (S : Store) : ixD (.tup [a, b, c]) (.int 1) S = .ok b S := rfl
theorem ix32 (a b c : D) (S : Store) : ixD (.tup [a, b, c]) (.int 2) S = .ok c S := rfl
theorem map_get {α β : Type} {f : α → β} {xs : List α} {j : Nat} {y : β} (h : (xs.map f)[j]? = some y) : ∃ x, xs[j]? = some x ∧ f x = y := by
  rw [List.getElem?_map] at h
  cases e : xs[j]? with
  | none => rw [e] at h; cases h
  | some x => rw [e] at h; exact ⟨x, rfl, Option.some.inj h⟩
def firstN {ρ : Type} (bad : Nat → Option ρ) : Nat → Nat → Option ρ
  | _, 0 => none
  | k, m + 1 => match bad k with
    | some r => some r
    | none => firstN bad (k + 1) m
theorem firstN_congr {ρ : Type} {p q : Nat → Option ρ} : ∀ (m k : Nat), (∀ j, k ≤ j → j < k + m → p j = q j) → firstN p k m = firstN q k m
  | 0, _, _ => rfl
  | m + 1, k, h => by
    unfold firstN
    rw [h k (Nat.le_refl _) (by omega), firstN_congr m (k + 1) fun j h1 h2 => h j (by omega) (by omega)]
theorem firstN_none {ρ : Type} {p : Nat → Option ρ} : ∀ (m k : Nat), firstN p k m = none → ∀ j, k ≤ j → j < k + m → p j = none
  | 0, _, _, j, h1, h2 => by omega
  | m + 1, k, h, j, h1, h2 => by
    unfold firstN at h
    cases e : p k with
    | some r => rw [e] at h; cases h
    | none =>
      rw [e] at h
      by_cases hj : j = k
      · rw [hj]; exact e
      · exact firstN_none m (k + 1) h j (by omega) (by omega)
/-- a loop that goes out at the first fault -/
theorem loop_fault {t : D → Fx.Env → Option Fx.Env} {b : Fx.Env → MS} {S : Store} {ρ : Type} (I : Nat → Fx.Env → Prop) (bad : Nat → Option ρ) (fin : ρ → RsS → Prop)
    (hfin : ∀ r e S', ¬ fin r (.ok (.nx e) S') ∧ ¬ fin r (.ok (.ct e) S') ∧ ¬ fin r (.ok (.bk e) S')) : ∀ (ds : List D) (k : Nat) (env : Fx.Env), I k env →
    (∀ j d env, ds[j]? = some d → I (k + j) env → ∃ env1, t d env = some env1 ∧ match bad (k + j) with
      | none => ∃ env2, b env1 S = .ok (.nx env2) S ∧ I (k + j + 1) env2
      | some r => fin r (b env1 S)) →
    match firstN bad k ds.length with
      | none => ∃ env', loop t b ds env S = .ok (.nx env') S ∧ I (k + ds.length) env'
      | some r => fin r (loop t b ds env S)
  | [], k, env, h, _ => ⟨env, rfl, h⟩
  | d :: ds, k, env, h, step => by
    obtain ⟨env1, h1, h2⟩ := step 0 d env rfl h
    rw [Nat.add_zero] at h2
    unfold loop
    simp only [h1, List.length_cons, firstN]
    cases e : bad k with
    | some r =>
      rw [e] at h2
      simp only
      have h2 : fin r (b env1 S) := h2
      cases q : b env1 S with
      | no => rw [q] at h2; exact h2
      | ex x e3 S3 => rw [q] at h2; exact h2
      | ok fl S' =>
        rw [q] at h2
        cases fl with
        | nx e2 => exact absurd h2 (hfin r e2 S').1
        | ct e2 => exact absurd h2 (hfin r e2 S').2.1
        | bk e2 => exact absurd h2 (hfin r e2 S').2.2
        | rt d2 => exact h2
    | none =>
      rw [e] at h2
      obtain ⟨env2, h3, h4⟩ := h2
      simp only [h3]
      have := loop_fault I bad fin hfin ds (k + 1) env2 h4 fun j d env hd hI => by
        rw [show k + 1 + j = k + (j + 1) by omega] at hI ⊢
        exact step (j + 1) d env hd hI
      rw [show k + (ds.length + 1) = k + 1 + ds.length by omega]
      exact this
def formOf (sc : List Form) (c : Str) : Option (List (Str × D)) := (sc.find? fun f => decide (f.1 = c)).map (·.2)
theorem formOf_cons (f : Form) (sc : List Form) (c : Str) : formOf (f :: sc) c = if f.1 = c then some f.2 else formOf sc c := by
  unfold formOf
  by_cases h : f.1 = c <;> simp [List.find?_cons, h]
theorem formOf_mem {sc : List Form} {c : Str} {f : List (Str × D)} (h : formOf sc c = some f) : (c, f) ∈ sc := by
  induction sc with
  | nil => cases h
  | cons g sc ih =>
    rw [formOf_cons] at h
    by_cases hg : g.1 = c
    · rw [if_pos hg] at h; cases h; subst hg; exact List.mem_cons_self
    · rw [if_neg hg] at h; exact List.mem_cons_of_mem _ (ih h)
theorem eqD_str {n m : Nat} {x y : Str} {S : Store} (hx : gd n (.str x) = true) (hy : gd m (.str y) = true) : eqD (.str x) (.str y) S = .ok (.bl (decide (x = y))) S := by
  rw [eqD_eq hx hy (Nat.zero_le _) (Nat.zero_le _)]
  simp [eqP, py, PyData.eqv, Bool.beq_eq_decide_eq]
theorem neD_str {n m : Nat} {x y : Str} {S : Store} (hx : gd n (.str x) = true) (hy : gd m (.str y) = true) : neD (.str x) (.str y) S = .ok (.bl (!decide (x = y))) S := by
  rw [neD_eq hx hy (Nat.zero_le _) (Nat.zero_le _)]
  simp [eqP, py, PyData.eqv, Bool.beq_eq_decide_eq]
theorem isD_non (x : D) (S : Store) : isD x .non S = .ok (.bl (isNon x)) S := rfl
theorem isntD_non (x : D) (S : Store) : isntD x .non S = .ok (.bl (!isNon x)) S := rfl
structure ScOk (n : Nat) (sc : List Form) : Prop where
  nm : ∀ f ∈ sc, gd n (.str f.1) = true
  kd : ∀ f ∈ sc, ∀ q ∈ f.2, kindP q.2 = true
  ln : ∀ f ∈ sc, f.2.length ≤ big
theorem list_as {α : Type} {p : D → Prop} {g : α → D} (h : ∀ d, p d → ∃ a, g a = d) : ∀ {ds : List D}, (∀ d ∈ ds, p d) → ∃ as : List α, as.map g = ds
  | [], _ => ⟨[], rfl⟩
  | d :: ds, hp => by
    obtain ⟨a, rfl⟩ := h d (hp d (by simp))
    obtain ⟨as, rfl⟩ := list_as h (ds := ds) fun d hd => hp d (List.mem_cons_of_mem _ hd)
    exact ⟨a :: as, rfl⟩
theorem cal3_ok {f1 f2 f3 : Fx.Env → M D} {g : List D → M D} {env : Fx.Env} {S : Store} {a b c : D} (h1 : f1 env S = .ok a S) (h2 : f2 env S = .ok b S) (h3 : f3 env S = .ok c S) : cal (cns f1 (cns f2 (cns f3 (fun _ => pur [])))) g env S = g [a, b, c] S := by
  simp only [cal, cns, bd, h1, h2, h3, pur]
theorem drop_ok {f : Fx.Env → M D} {env : Fx.Env} {S S' : Store} {d : D} (h : f env S = .ok d S') : Fx.drop f env S = .ok (.nx env) S' := by simp only [Fx.drop, lft, h]
theorem drop_ex {f : Fx.Env → M D} {env : Fx.Env} {S S' : Store} {e : Ex} (h : f env S = .ex e S') : Fx.drop f env S = .ex e env S' := by simp only [Fx.drop, lft, h]
theorem lt_tr {a b c : List Nat} (h : a < b) (g : b < c) : a < c := List.lt_trans h g
theorem asc_pair : ∀ {xs : List Str}, ascS xs = true → xs.Pairwise fun a b => a.cps.toList < b.cps.toList
  | [], _ => .nil
  | [x], _ => by simp
  | x :: y :: r, h => by
    have h1 : ltS x y = true ∧ ascS (y :: r) = true := by
      simp only [ascS, List.all_eq_true, List.mem_range] at h ⊢
      refine ⟨h 0 (by simp), fun k hk => ?_⟩
      have := h (k + 1) (by simp at hk ⊢; omega)
      simpa using this
    have ih := asc_pair h1.2
    have hxy : x.cps.toList < y.cps.toList := by simpa [ltS] using h1.1
    refine List.pairwise_cons.mpr ⟨fun z hz => ?_, ih⟩
    rcases List.mem_cons.mp hz with rfl | hz
    · exact hxy
    · exact lt_tr hxy ((List.pairwise_cons.mp ih).1 z hz)
theorem asc_nodup {xs : List Str} (h : ascS xs = true) : xs.Nodup := (asc_pair h).imp fun {a b} hab e => by
  subst e
  exact absurd hab (List.lt_irrefl _)
theorem putD_new {kvs : List (Key × D)} {k : Key} {d : D} (h : k ∉ kvs.map (·.1)) : putD kvs k d = kvs ++ [(k, d)] := by
  unfold putD
  rw [if_neg]
  intro z
  obtain ⟨kv, h1, h2⟩ := List.any_eq_true.mp z
  simp only [decide_eq_true_eq] at h2
  exact h (List.mem_map.mpr ⟨kv, h1, h2⟩)
theorem mergeD_nodup : ∀ (more acc : List (Key × D)), ((acc ++ more).map (·.1)).Nodup → mergeD acc more = acc ++ more
  | [], acc, _ => by simp [mergeD]
  | kv :: more, acc, h => by
    have h1 : kv.1 ∉ acc.map (·.1) := by
      simp only [List.map_append, List.map_cons, List.nodup_append, List.nodup_cons] at h
      intro z
      exact h.2.2 _ z _ (by simp) rfl
    show mergeD (putD acc kv.1 kv.2) more = _
    rw [putD_new h1, mergeD_nodup more _ (by simpa using h)]
    simp
abbrev fkv (f : Form) : Key × D := (.inr f.1, .tup (f.2.map row))
abbrev fkvs (sc : List Form) : List (Key × D) := mergeD [] (sc.map fkv)
theorem fkvs_eq {sc : List Form} (h : ascS (sc.map (·.1)) = true) : fkvs sc = sc.map fkv := by
  unfold fkvs
  rw [mergeD_nodup _ _ (by
    rw [List.nil_append, List.map_map]
    have := asc_nodup h
    rw [show ((fun kv : Key × D => kv.1) ∘ fkv) = (Sum.inr ∘ fun f : Form => f.1) from rfl, ← List.map_map]
    rw [List.Nodup, List.pairwise_map]
    exact this.imp fun h e => h (Sum.inr.inj e))]
  rfl
theorem valD_fkv (c : Str) : ∀ sc : List Form, valD (sc.map fkv) (.inr c) = (formOf sc c).map fun f => .tup (f.map row)
  | [] => rfl
  | f :: sc => by
    have ih := valD_fkv c sc
    rw [formOf_cons]
    unfold valD at ih ⊢
    rw [List.map_cons, List.find?_cons]
    by_cases h : f.1 = c
    · have : decide ((fkv f).1 = .inr c) = true := by simp [h]
      rw [this, if_pos h]; rfl
    · have : decide ((fkv f).1 = .inr c) = false := by simp [h]
      rw [this, if_neg h]; exact ih
theorem pairsK_frow (sc : List Form) : pairsK (sc.map frow) = some (sc.map fkv) := by
  have := pairsK_map (sc.map fun f => (f.1, D.tup (f.2.map row)))
  rw [List.map_map, List.map_map] at this
  exact this
theorem dict_sc {sc : List Form} {S : Store} : dictD [.tup (sc.map frow)] S = .ok (.obj S.length) (S ++ [some (.dct (fkvs sc))]) := by
  have z2 : dictD [.tup (sc.map frow)] S = (bd (opt (pairsK (sc.map frow))) fun kvs => mkO (.dct (mergeD [] kvs))) S := rfl
  rw [z2]
  simp only [bd, pairsK_frow, opt, pur, mkO]
theorem dget_ok {i p : Nat} {env : Fx.Env} {f2 : Fx.Env → M D} {S : Store} {sc : List Form} {c : Str} {f : List (Str × D)} (ha : ascS (sc.map (·.1)) = true) (hi : env[i]? = some (some (.obj p))) (hp : S[p]? = some (some (.dct (fkvs sc)))) (h2 : f2 env S = .ok (.str c) S) (hf : formOf sc c = some f) :
    bin dgetD (getv i) f2 env S = .ok (.tup (f.map row)) S := by
  have g : getv i env S = .ok (.obj p) S := getv_ok hi
  rw [bin_ok g h2]
  simp only [dgetD, objK, bd, hp, keyOf, opt, pur, fkvs_eq ha, valD_fkv, hf, Option.map_some]
theorem din_ok {i j p : Nat} {env : Fx.Env} {S : Store} {sc : List Form} {c : Str} (ha : ascS (sc.map (·.1)) = true) (hi : env[i]? = some (some (.obj p))) (hp : S[p]? = some (some (.dct (fkvs sc)))) (h2 : env[j]? = some (some (.str c))) :
    bin (dinD true) (getv j) (getv i) env S = .ok (.bl (!(formOf sc c).isSome)) S := by
  rw [bin_ok (getv_ok h2) (getv_ok hi)]
  simp only [dinD, objK, bd, hp, keyOf, opt, pur, fkvs_eq ha, valD_fkv, if_true, Option.isSome_map]
theorem rng_get {n j : Nat} {d : D} (h : (rng 0 (n : Int))[j]? = some d) : d = .int j ∧ j < n := by
  unfold rng at h
  obtain ⟨k, h1, rfl⟩ := map_get h
  have hn : ((n : Int) - 0).toNat = n := by omega
  rw [hn] at h1
  have hj := Fx.lt_of_some h1
  rw [List.length_range] at hj
  rw [List.getElem?_range hj] at h1
  cases h1
  exact ⟨by rw [Int.zero_add], hj⟩
theorem rng_len (n : Nat) : (rng 0 (n : Int)).length = n := by simp [rng]
theorem itr1_len {f : Fx.Env → M D} {env : Fx.Env} {S : Store} {n : Nat} (h : f env S = .ok (.int n) S) (hn : n ≤ big) : itr1 (cns f (fun _ => pur [])) env S = .ok (rng 0 n) S := by
  refine itr1_ok ?_ ?_
  · simp only [cns, bd, h, pur]
  · have : (n : Int) ≤ 1048576 := by have : n ≤ 1048576 := hn; omega
    exact inR_of (by omega) (by omega)
theorem or_t {f g : Fx.Env → M Bool} {env : Fx.Env} {S S' : Store} (h : f env S = .ok true S') : orB f g env S = .ok true S' := by simp [orB, bd, h, pur]
theorem or_f {f g : Fx.Env → M Bool} {env : Fx.Env} {S S' : Store} (h : f env S = .ok false S') : orB f g env S = g env S' := by simp [orB, bd, h]
theorem firstN_some {ρ : Type} {p : Nat → Option ρ} {r : ρ} : ∀ (m k : Nat), firstN p k m = some r → ∃ j, k ≤ j ∧ j < k + m ∧ p j = some r
  | 0, _, h => by cases h
  | m + 1, k, h => by
    unfold firstN at h
    cases e : p k with
    | some r' => rw [e] at h; cases h; exact ⟨k, Nat.le_refl _, by omega, e⟩
    | none =>
      rw [e] at h
      obtain ⟨j, h1, h2, h3⟩ := firstN_some m (k + 1) h
      exact ⟨j, by omega, by omega, h3⟩
theorem comp_q {t : D → Fx.Env → Option Fx.Env} {el : Fx.Env → M D} {env0 : Fx.Env} (Iv : Store → Prop) (q p : D → Prop) : ∀ (ds acc : List D) (S : Store), (∀ d ∈ ds, q d) → acc.length + ds.length ≤ sizeLine → Iv S →
    (∀ d S, q d → Iv S → ∃ env1, t d env0 = some env1 ∧ ∃ y S2, el env1 S = .ok y S2 ∧ p y ∧ Iv S2) →
    ∃ ys S', compL mkL t (fun _ => pur true) el env0 ds acc S = .ok (.lst (acc ++ ys)) S' ∧ ys.length = ds.length ∧ (∀ y ∈ ys, p y) ∧ Iv S'
  | [], acc, S, _, hl, h, _ => by
    refine ⟨[], S, ?_, rfl, by simp, h⟩
    unfold compL
    rw [mkL_ok (by simpa using hl)]; simp
  | d :: ds, acc, S, hq, hl, h, step => by
    obtain ⟨env1, h1, y, S2, h2, h3, h4⟩ := step d S (hq d (by simp)) h
    obtain ⟨ys, S', k1, k2, k3, k4⟩ := comp_q Iv q p ds (acc ++ [y]) S2 (fun d hd => hq d (List.mem_cons_of_mem _ hd)) (by simp at hl ⊢; omega) h4 step
    refine ⟨y :: ys, S', ?_, by simp [k2], fun z hz => (List.mem_cons.mp hz).elim (fun e => e ▸ h3) (k3 z), k4⟩
    unfold compL
    have hl2 : acc.length < sizeLine := by simp at hl; omega
    simp only [h1, bdN, pur, if_true, h2, if_pos hl2, k1, List.append_assoc, List.singleton_append]
theorem putD_key {kvs : List (Key × D)} {k k' : Key} {d : D} (h : k' ∈ kvs.map (·.1) ∨ k' = k) : k' ∈ (putD kvs k d).map (·.1) := by
  unfold putD
  split
  · rename_i c
    have e : (kvs.map fun kv => if kv.1 = k then (kv.1, d) else kv).map (·.1) = kvs.map (·.1) := by
      rw [List.map_map]
      refine List.map_congr_left fun kv _ => ?_
      simp only [Function.comp]
      split <;> rfl
    rw [e]
    rcases h with h | rfl
    · exact h
    · obtain ⟨kv, h1, h2⟩ := List.any_eq_true.mp c
      simp only [decide_eq_true_eq] at h2
      exact List.mem_map.mpr ⟨kv, h1, h2⟩
  · rw [List.map_append]
    rcases h with h | rfl
    · exact List.mem_append_left _ h
    · exact List.mem_append_right _ (by simp)
theorem mergeD_key : ∀ {more acc : List (Key × D)} {k : Key}, k ∈ acc.map (·.1) ∨ k ∈ more.map (·.1) → k ∈ (mergeD acc more).map (·.1)
  | [], acc, k, h => by
    rcases h with h | h
    · exact h
    · cases h
  | kv :: more, acc, k, h => by
    show k ∈ (mergeD (putD acc kv.1 kv.2) more).map (·.1)
    refine mergeD_key ?_
    rcases h with h | h
    · exact .inl (putD_key (.inl h))
    · rcases List.mem_cons.mp h with h | h
      · exact .inl (putD_key (.inr h))
      · exact .inr h
theorem valD_some : ∀ {kvs : List (Key × D)} {k : Key}, k ∈ kvs.map (·.1) → ∃ d, valD kvs k = some d
  | kv :: kvs, k, h => by
    unfold valD
    rw [List.find?_cons]
    by_cases e : kv.1 = k
    · exact ⟨kv.2, by simp [e]⟩
    · rcases List.mem_cons.mp h with h | h
      · exact absurd h.symm e
      · obtain ⟨d, hd⟩ := valD_some h
        refine ⟨d, ?_⟩
        rw [decide_eq_false e]
        exact hd
theorem ixT {xs : List D} {i : Int} {d : D} {S : Store} (h : atI xs i = some d) : ixD (.tup xs) (.int i) S = .ok d S := by
  simp only [ixD, seqLT, bd, pur, h, opt]
theorem ixL {xs : List D} {i : Int} {d : D} {S : Store} (h : atI xs i = some d) : ixD (.lst xs) (.int i) S = .ok d S := by
  simp only [ixD, seqLT, seqL, seqM, bd, pur, h, opt]
theorem atI_last {xs : List D} (h : 0 < xs.length) : atI xs (-1) = some xs[xs.length - 1] := by
  unfold atI ixN
  rw [if_neg (by omega), if_pos (by omega)]
  show xs[((xs.length : Int) + -1).toNat]? = _
  rw [show ((xs.length : Int) + -1).toNat = xs.length - 1 by omega, List.getElem?_eq_getElem]
theorem tup_lst {ds : List D} {S : Store} (h : ds.length ≤ sizeLine) : tupleD [.lst ds] S = .ok (.tup ds) S := by
  simp only [tupleD, bd, seqL, seqM, pur]
  exact mkT_ok h
theorem comp_none {t : D → Fx.Env → Option Fx.Env} {c : Fx.Env → M Bool} {el : Fx.Env → M D} {env0 : Fx.Env} : ∀ (ds : List D) (S : Store), (∀ d ∈ ds, ∀ S, ∃ env1, t d env0 = some env1 ∧ ∃ S2, c env1 S = .ok false S2) → ∃ S', compL mkL t c el env0 ds [] S = .ok (.lst []) S'
  | [], S, _ => ⟨S, by unfold compL; exact mkL_ok (by simp)⟩
  | d :: ds, S, h => by
    obtain ⟨env1, h1, S2, h2⟩ := h d (by simp) S
    obtain ⟨S', h3⟩ := comp_none (el := el) ds S2 fun d hd => h d (List.mem_cons_of_mem _ hd)
    refine ⟨S', ?_⟩
    unfold compL
    simp only [h1, bdN, h2, Bool.false_eq_true, if_false, h3]
theorem cal2_okS {f1 f2 : Fx.Env → M D} {g : List D → M D} {env : Fx.Env} {S S1 : Store} {a b : D} (h1 : f1 env S = .ok a S) (h2 : f2 env S = .ok b S1) : cal (cns f1 (cns f2 (fun _ => pur []))) g env S = g [a, b] S1 := by
  simp only [cal, cns, bd, h1, h2, pur]
end Fx

end
/-! ## K18b -/
section
namespace K18
variable [Fx.Tabl]
open PySem Fx
open L2 (atI ixN Key)
def After (S T : Store) : Prop := ∃ l, T = S ++ l
theorem After.refl (S : Store) : After S S := ⟨[], by simp⟩
theorem After.add {S T : Store} (h : After S T) (l : Store) : After S (T ++ l) := by obtain ⟨k, rfl⟩ := h; exact ⟨k ++ l, by rw [List.append_assoc]⟩
theorem After.trans {S T U : Store} (h : After S T) (g : After T U) : After S U := by obtain ⟨k, rfl⟩ := g; exact h.add k
theorem drop_ok' {f : Fx.Env → M D} {env : Fx.Env} {S S' : Store} {d : D} (h : f env S = .ok d S') : Fx.drop f env S = .ok (.nx env) S' := by simp only [Fx.drop, lft, h]
theorem drop_ex' {f : Fx.Env → M D} {env : Fx.Env} {S S' : Store} {e : Ex} (h : f env S = .ex e S') : Fx.drop f env S = .ex e env S' := by simp only [Fx.drop, lft, h]
end K18

end
/-! ## K18H -/
section
namespace K18
variable [Fx.Tabl]
open PySem Fx
open L2 (atI ixN Key)
theorem eq_cells (cells : List Int) (S : Store) : eqD (.lst (cells.map .int)) (.lst []) S = .ok (.bl cells.isEmpty) S := by
  obtain ⟨n, hn⟩ : ∃ n, gds n (cells.map D.int) = true := by
    induction cells with
    | nil => exact ⟨0, rfl⟩
    | cons c cs ih =>
      obtain ⟨n, hn⟩ := ih
      refine ⟨max c.natAbs n, ?_⟩
      simp only [List.map_cons, gds, gd, Bool.and_eq_true, decide_eq_true_eq]
      exact ⟨Nat.le_max_left _ _, gds_mono (Nat.le_max_right _ _) _ hn⟩
  rw [eqD_eq (n := n) (m := 0)]
  · rw [eqP_nilL, isEmpty_map']
  · simpa [gd] using hn
  · rfl
  · refine Nat.le_trans (dep_lst (k := 0) fun d hd => ?_) (by decide)
    obtain ⟨i, hi, rfl⟩ := List.mem_map.mp hd
    exact Nat.le_refl _
  · show 1 ≤ 64; decide
theorem pow3 {i : Int} {S : Store} (h : i.natAbs < 2 ^ 64) : powD (.int i) (.int 3) S = .ok (.int (i ^ 3)) S := by
  simp only [powD]
  rw [if_pos ⟨by decide, by decide, h⟩]; rfl
theorem draw_ok {S R : Store} {m : Nat} (hm : 0 < m) (hb : m < 1000000) (hf : Fd S R) : ∃ (r : Nat) (S' : Store), r < m ∧ Fd S' R ∧ g_law_draw [.obj 0, .int m] S = .ok (.int r) S' := by
  obtain ⟨cells, a, l, c, hc, rfl⟩ := hf
  have hm0 : (m : Int) ≠ 0 := by omega
  have hmb : (m : Int).natAbs < 1073741824 := by omega
  let X := D.lst (cells.map .int)
  let e0 : Fx.Env := [some (.obj 0), some (.int m), none, none, none, none]
  have h0 : e0[0]? = some (some (.obj 0)) := rfl
  -- count
  have s1 := put_ok (R := R) h0 (p4 X (.int a) (.int l) (.int c) (.int ((c : Int) + 1))) ((bink (g := addD mkL) (get_ok h0 (v4 _ _ _ _))).trans addi_ok)
  have ec : ((c : Int) + 1) = ((c + 1 : Nat) : Int) := by omega
  rw [ec] at s1
  let S1 : Store := St X (.int a) (.int l) (.int (c + 1 : Nat)) R
  have gc1 := get_ok (R := R) (x := X) (a := .int a) (l := .int l) (c := .int (c + 1 : Nat)) h0 (v1 X (.int a) (.int l) (.int (c + 1 : Nat)))
  have q0 := tst_ok ((bin_ok (g := eqD) gc1 (nilL _ _)).trans (eq_cells cells S1))
  cases hcs : cells.isEmpty with
  | true =>
    rw [hcs] at q0
    obtain ⟨r, hr, er⟩ := toNat_fmod (i := ((c + 1 : Nat) : Int)) hm
    have gn := get_ok (R := R) (x := X) (a := .int a) (l := .int l) (c := .int (c + 1 : Nat)) h0 (v4 X (.int a) (.int l) (.int (c + 1 : Nat)))
    have t := (bin_ok (g := modD) ((cal1_ok gn).trans int_ok) (getv_ok (i := 1) rfl)).trans (mod_ok hm0)
    rw [er] at t
    exact ⟨r, S1, hr, ⟨cells, a, l, c + 1, hc, rfl⟩, body_rt rfl ((seq_nx s1).trans (seq_rt ((ifS_t q0).trans (ret_ok t))))⟩
  | false =>
  rw [hcs] at q0
  have pre0 : ∀ {g : Fx.Env → MS} {fl : Fl} {S' : Store}, g e0 S1 = .ok fl S' → seqS (dput (getv 0) (fun _ => pur (.str "count")) (bin (addD mkL) (bin dgetD (getv 0) (fun _ => pur (.str "count"))) (fun _ => pur (.int 1)))) (seqS (ifS (tst (bin eqD (bin dgetD (getv 0) (fun _ => pur (.str "cells"))) (dsp mkL (fun _ => pur [])))) (Fx.ret (bin modD (cal (cns (bin dgetD (getv 0) (fun _ => pur (.str "count"))) (fun _ => pur [])) intD) (getv 1))) pass) g) e0 (St X (.int a) (.int l) (.int c) R) = .ok fl S' :=
    fun h => (seq_nx s1).trans ((seq_nx ((ifS_f q0).trans rfl)).trans h)
  have gl := get_ok (R := R) (x := X) (a := .int a) (c := .int (c + 1 : Nat)) h0 (v3 X (.int a) (.int l) (.int (c + 1 : Nat)))
  have cnd := tst_ok ((bink (g := gtD) gl).trans (show gtD (.int l) (.int 0) _ = .ok (.bl (decide ((0 : Int) < l))) _ from rfl))
  by_cases hl : (0 : Int) < l
  · rw [decide_eq_true hl] at cnd
    obtain ⟨r, hr, er⟩ := toNat_fmod (i := l) hm
    have t1 := set_ok (i := 2) ((bin_ok (g := modD) ((cal1_ok gl).trans int_ok) (getv_ok (i := 1) rfl)).trans (mod_ok hm0))
    rw [er] at t1
    let e1 : Fx.Env := [some (.obj 0), some (.int m), some (.int r), none, none, none]
    have gl2 := get_ok (R := R) (x := X) (a := .int a) (c := .int (c + 1 : Nat)) (env := e1) rfl (v3 X (.int a) (.int l) (.int (c + 1 : Nat)))
    have ed : (l : Int).fdiv m = ((l / m : Nat) : Int) := by rw [Int.fdiv_eq_ediv_of_nonneg _ (by omega)]; rfl
    have t2 := put_ok (R := R) (env := e1) rfl (p3 X (.int a) (.int l) (.int (c + 1 : Nat)) (.int ((l : Int).fdiv m))) ((bin_ok (g := fdivD) gl2 (getv_ok (i := 1) rfl)).trans (div_ok hm0 hmb))
    rw [ed] at t2
    exact ⟨r, _, hr, ⟨cells, a, l / m, c + 1, hc, rfl⟩, body_rt (b := b_law_draw) rfl (pre0 (seq_rt ((ifS_t cnd).trans ((seq_nx t1).trans ((seq_nx t2).trans (ret_ok (getv_ok rfl)))))))⟩
  · rw [decide_eq_false hl] at cnd
    have t1 := set_ok (i := 3) (get_ok (R := R) (x := X) (l := .int l) (c := .int (c + 1 : Nat)) h0 (v2 X (.int a) (.int l) (.int (c + 1 : Nat))))
    let e1 : Fx.Env := [some (.obj 0), some (.int m), none, some (.int a), none, none]
    have s2 := put_ok (R := R) (env := e1) rfl (p2 X (.int a) (.int l) (.int (c + 1 : Nat)) (.int ((a : Int) + 1))) ((bink (g := addD mkL) (getv_ok (i := 3) rfl)).trans addi_ok)
    have ea : ((a : Int) + 1) = ((a + 1 : Nat) : Int) := by omega
    rw [ea] at s2
    let S2 : Store := St X (.int (a + 1 : Nat)) (.int l) (.int (c + 1 : Nat)) R
    have gc := get_ok (R := R) (x := X) (a := .int (a + 1 : Nat)) (l := .int l) (c := .int (c + 1 : Nat)) (env := e1) rfl (v1 X (.int (a + 1 : Nat)) (.int l) (.int (c + 1 : Nat)))
    have cell : ∃ x : Int, bin ixD (bin dgetD (getv 0) (fun _ => pur (.str "cells"))) (bin modD (cal (cns (getv 3) (fun _ => pur [])) intD) (cal (cns (bin dgetD (getv 0) (fun _ => pur (.str "cells"))) (fun _ => pur [])) lenD)) e1 S2 = .ok (.int x) S2 := by
      have hpos : 0 < cells.length := by cases cells <;> simp at hcs ⊢
      obtain ⟨j, hj, ej⟩ := toNat_fmod (i := a) hpos
      have w1 := (bin_ok (g := modD) ((cal1_ok (getv_ok (i := 3) (env := e1) rfl)).trans int_ok) ((cal1_ok gc).trans len_lst)).trans (mod_ok (by simp; intro z; rw [z] at hpos; simp at hpos))
      rw [List.length_map, ej] at w1
      exact ⟨cells[j], (bin_ok (g := ixD) gc w1).trans (ix_lst rfl (by rw [List.getElem?_map, List.getElem?_eq_getElem hj]; rfl))⟩
    obtain ⟨x, hx⟩ := cell
    have t4 := set_ok (i := 4) hx
    let e2 : Fx.Env := [some (.obj 0), some (.int m), none, some (.int a), some (.int x), none]
    have gc2 := get_ok (R := R) (x := X) (a := .int (a + 1 : Nat)) (l := .int l) (c := .int (c + 1 : Nat)) (env := e2) rfl (v1 X (.int (a + 1 : Nat)) (.int l) (.int (c + 1 : Nat)))
    have cnd2 : ∃ b : Bool, (b = true → (1000000000000000000 : Int) ≤ x) ∧ (andB (tst (bin geD (getv 4) (bin powD (fun _ => pur (.int 10)) (fun _ => pur (.int 18))))) (tst (bin ltD (getv 3) (cal (cns (bin dgetD (getv 0) (fun _ => pur (.str "cells"))) (fun _ => pur [])) lenD)))) e2 S2 = .ok b S2 := by
      have q := tst_ok ((bin_ok (g := geD) (getv_ok (i := 4) (env := e2) rfl) (kbink.trans pow18)).trans (show geD (.int x) (.int 1000000000000000000) S2 = .ok (.bl (decide ((1000000000000000000 : Int) ≤ x))) S2 from rfl))
      by_cases hge : (1000000000000000000 : Int) ≤ x
      · rw [decide_eq_true hge] at q
        exact ⟨_, fun _ => hge, (and_tt q).trans (tst_ok ((bin_ok (g := ltD) (getv_ok (i := 3) (env := e2) rfl) ((cal1_ok gc2).trans len_lst)).trans rfl))⟩
      · rw [decide_eq_false hge] at q
        exact ⟨false, (fun z => by cases z), and_ff q⟩
    obtain ⟨b, hb2, cnd2⟩ := cnd2
    have pre : ∀ {g : Fx.Env → MS} {fl : Fl} {S' : Store}, g e2 S2 = .ok fl S' → seqS (dput (getv 0) (fun _ => pur (.str "at")) (bin (addD mkL) (getv 3) (fun _ => pur (.int 1)))) (seqS (Fx.set 4 (bin ixD (bin dgetD (getv 0) (fun _ => pur (.str "cells"))) (bin modD (cal (cns (getv 3) (fun _ => pur [])) intD) (cal (cns (bin dgetD (getv 0) (fun _ => pur (.str "cells"))) (fun _ => pur [])) lenD)))) g) e1 S1 = .ok fl S' :=
      fun h => (seq_nx s2).trans ((seq_nx t4).trans h)
    cases b with
    | true =>
      have hge := hb2 rfl
      obtain ⟨r, hr, er⟩ := toNat_fmod (i := x) hm
      have ed : ∃ q : Nat, x.fdiv m = (q : Int) := ⟨(x.fdiv m).toNat, by
        have : 0 ≤ x.fdiv m := by rw [Int.fdiv_eq_ediv_of_nonneg _ (by omega)]; exact Int.ediv_nonneg (by omega) (by omega)
        omega⟩
      obtain ⟨q, eq⟩ := ed
      have u1 := put_ok (R := R) (env := e2) rfl (p3 X (.int (a + 1 : Nat)) (.int l) (.int (c + 1 : Nat)) (.int (x.fdiv m))) ((bin_ok (g := fdivD) (getv_ok (i := 4) rfl) (getv_ok (i := 1) rfl)).trans (div_ok hm0 hmb))
      rw [eq] at u1
      have u2 := (bin_ok (g := modD) ((cal1_ok (getv_ok (i := 4) (env := e2) (S := St X (.int (a + 1 : Nat)) (.int q) (.int (c + 1 : Nat)) R) rfl)).trans int_ok) (getv_ok (i := 1) rfl)).trans (mod_ok hm0)
      rw [er] at u2
      exact ⟨r, _, hr, ⟨cells, a + 1, q, c + 1, hc, rfl⟩, body_rt (b := b_law_draw) rfl (pre0 ((seq_nx ((ifS_f cnd).trans rfl)).trans ((seq_nx t1).trans (pre (seq_rt ((ifS_t cnd2).trans ((seq_nx u1).trans (ret_ok u2))))))))⟩
    | false =>
      have gn : ∀ z : Option D, bin dgetD (getv 0) (fun _ => pur (.str "count")) [some (.obj 0), some (.int m), none, some (.int a), some (.int x), z] S2 = .ok (.int (c + 1 : Nat)) S2 := fun z => get_ok (R := R) (x := X) (a := .int (a + 1 : Nat)) (l := .int l) (c := .int (c + 1 : Nat)) rfl (v4 X (.int (a + 1 : Nat)) (.int l) (.int (c + 1 : Nat)))
      have w1 := (bink (g := modD) (d := .int 2147483563) ((cal1_ok ((bink (g := addD mkL) (d := .int 631) ((bin_ok (g := addD mkL) ((bink (g := modD) (d := .int 1000001801) ((cal1_ok (getv_ok (i := 4) (env := e2) (S := S2) rfl)).trans int_ok)).trans (mod_ok (by decide)))
        ((kbin (g := mulD) (d := .int 96401) (gn none)).trans (mul_ok (.inl (b64 (i := 96401) (by decide)))))).trans addi_ok)).trans addi_ok)).trans int_ok)).trans (mod_ok (by decide))
      obtain ⟨r1, hr1, er1⟩ := toNat_fmod (i := x.fmod 1000001801 + 96401 * ((c + 1 : Nat) : Int) + 631) (m := 2147483563) (by decide)
      have w1 := set_ok (i := 5) w1
      rw [show (2147483563 : Int) = ((2147483563 : Nat) : Int) from rfl, er1] at w1
      let e3 : Fx.Env := [some (.obj 0), some (.int m), none, some (.int a), some (.int x), some (.int r1)]
      have g5 := getv_ok (i := 5) (env := e3) (S := S2) (d := .int r1) rfl
      have w2 := (bink (g := modD) (d := .int 2147483497) ((cal1_ok ((bink (g := addD mkL) (d := .int 347) ((bin_ok (g := addD mkL) ((bink (g := powD) (d := .int 3) g5).trans (pow3 (by omega)))
        ((kbin (g := mulD) (d := .int 7400441) (gn (some (.int r1)))).trans (mul_ok (.inl (b64 (i := 7400441) (by decide)))))).trans addi_ok)).trans addi_ok)).trans int_ok)).trans (mod_ok (by decide))
      obtain ⟨r2, hr2, er2⟩ := toNat_fmod (i := (r1 : Int) ^ 3 + 7400441 * ((c + 1 : Nat) : Int) + 347) (m := 2147483497) (by decide)
      have w2 := set_ok (i := 5) w2
      rw [show (2147483497 : Int) = ((2147483497 : Nat) : Int) from rfl, er2] at w2
      let e4 : Fx.Env := [some (.obj 0), some (.int m), none, some (.int a), some (.int x), some (.int r2)]
      have g6 := getv_ok (i := 5) (env := e4) (S := S2) (d := .int r2) rfl
      have w3 := (bin_ok (g := modD) ((cal1_ok ((bink (g := fdivD) (d := .int 32) ((bink (g := modD) (d := .int 2147483489) ((cal1_ok ((bin_ok (g := addD mkL) ((bink (g := powD) (d := .int 3) g6).trans (pow3 (by omega)))
        ((kbin (g := mulD) (d := .int 337) g6).trans (mul_ok (.inl (b64 (i := 337) (by decide)))))).trans addi_ok)).trans int_ok)).trans (mod_ok (by decide)))).trans (div_ok (by decide) (by decide)))).trans int_ok) (getv_ok (i := 1) rfl)).trans (mod_ok hm0)
      obtain ⟨r3, hr3, er3⟩ := toNat_fmod (i := ((((r2 : Int) ^ 3 + 337 * (r2 : Int)).fmod 2147483489).fdiv 32)) hm
      rw [er3] at w3
      exact ⟨r3, _, hr3, ⟨cells, a + 1, l, c + 1, hc, rfl⟩, body_rt (b := b_law_draw) rfl (pre0 ((seq_nx ((ifS_f cnd).trans rfl)).trans ((seq_nx t1).trans (pre ((seq_nx ((ifS_f cnd2).trans rfl)).trans ((seq_nx w1).trans ((seq_nx w2).trans (ret_ok w3))))))))⟩
/-! ### a draw in its place -/
theorem drawn {i : Nat} {f : Fx.Env → M D} {env : Fx.Env} {S R : Store} {m : Nat} (hi : env[i]? = some (some (.obj 0))) (hf : f env S = .ok (.int m) S) (hm : 0 < m) (hb : m < 1000000) (h : Fd S R) :
    ∃ (r : Nat) (S' : Store), r < m ∧ Fd S' R ∧ cal (cns (getv i) (cns f (fun _ => pur []))) g_law_draw env S = .ok (.int r) S' := by
  obtain ⟨r, S', h1, h2, h3⟩ := draw_ok hm hb h
  exact ⟨r, S', h1, h2, (cal2_ok (getv_ok hi) hf).trans h3⟩
theorem drawnk {i : Nat} {env : Fx.Env} {S R : Store} {m : Nat} (hi : env[i]? = some (some (.obj 0))) (hm : 0 < m) (hb : m < 1000000) (h : Fd S R) :
    ∃ (r : Nat) (S' : Store), r < m ∧ Fd S' R ∧ cal (cns (getv i) (cns (fun _ => pur (.int m)) (fun _ => pur []))) g_law_draw env S = .ok (.int r) S' := drawn hi rfl hm hb h
theorem any_ok {S R : Store} {xs : List D} (h0 : 0 < xs.length) (hb : xs.length < 1000000) (hf : Fd S R) : ∃ (d : D) (S' : Store), d ∈ xs ∧ Fd S' R ∧ g_law_any [.obj 0, .lst xs] S = .ok d S' := by
  let env : Fx.Env := [some (.obj 0), some (.lst xs)]
  obtain ⟨r, S', hr, hF, e⟩ := drawn (i := 0) (env := env) (S := S) (f := cal (cns (getv 1) (fun _ => pur [])) lenD) (m := xs.length) rfl ((cal1_ok (getv_ok (i := 1) rfl)).trans len_lst) h0 hb hf
  exact ⟨xs[r], S', List.getElem_mem _, hF, body_rt (b := b_law_any) rfl (ret_okS ((bin_okS (getv_ok (i := 1) rfl) e).trans (ix_nat hr)))⟩
theorem anyn {i : Nat} {f : Fx.Env → M D} {env : Fx.Env} {S R : Store} {xs : List D} (hi : env[i]? = some (some (.obj 0))) (hf : f env S = .ok (.lst xs) S) (h0 : 0 < xs.length) (hb : xs.length < 1000000) (h : Fd S R) :
    ∃ (d : D) (S' : Store), d ∈ xs ∧ Fd S' R ∧ cal (cns (getv i) (cns f (fun _ => pur []))) g_law_any env S = .ok d S' := by
  obtain ⟨d, S', h1, h2, h3⟩ := any_ok h0 hb h
  exact ⟨d, S', h1, h2, (cal2_ok (getv_ok hi) hf).trans h3⟩
end K18

end
/-! ## K18I -/
section
namespace K18
variable [Fx.Tabl]
open PySem Fx
open L2 (atI ixN Key)
/-! ### the drawn schema -/
theorem Fd.after {S R S' : Store} (h : Fd S R) (a : After S S') : ∃ R', Fd S' R' ∧ Ext R R' := by
  obtain ⟨cells, x, l, c, hc, rfl⟩ := h
  obtain ⟨k, rfl⟩ := a
  exact ⟨R ++ k, ⟨cells, x, l, c, hc, rfl⟩, Ext.app R k⟩
theorem comp_rel {t : D → Fx.Env → Option Fx.Env} {el : Fx.Env → M D} {env0 : Fx.Env} (Iv : Store → Prop) (Rl : D → D → Prop) : ∀ (ds acc : List D) (S : Store), acc.length + ds.length ≤ sizeLine → Iv S →
    (∀ d ∈ ds, ∀ S, Iv S → ∃ env1, t d env0 = some env1 ∧ ∃ y S2, el env1 S = .ok y S2 ∧ Rl d y ∧ Iv S2) →
    ∃ (zs : List (D × D)) (S' : Store), compL mkL t (fun _ => pur true) el env0 ds acc S = .ok (.lst (acc ++ zs.map (·.2))) S' ∧ zs.map (·.1) = ds ∧ (∀ z ∈ zs, Rl z.1 z.2) ∧ Iv S'
  | [], acc, S, hl, h, _ => by
    refine ⟨[], S, ?_, rfl, by simp, h⟩
    unfold compL
    rw [mkL_ok (by simpa using hl)]; simp
  | d :: ds, acc, S, hl, h, step => by
    obtain ⟨env1, h1, y, S2, h2, h3, h4⟩ := step d (by simp) S h
    obtain ⟨zs, S', k1, k2, k3, k4⟩ := comp_rel Iv Rl ds (acc ++ [y]) S2 (by simp at hl ⊢; omega) h4 fun d' hd' => step d' (List.mem_cons_of_mem _ hd')
    refine ⟨(d, y) :: zs, S', ?_, by simp [k2], fun z hz => (List.mem_cons.mp hz).elim (fun e => e ▸ h3) (k3 z), k4⟩
    unfold compL
    have hl2 : acc.length < sizeLine := by simp at hl; omega
    simp only [h1, bdN, pur, if_true, h2, if_pos hl2, k1, List.map_cons, List.append_assoc, List.singleton_append]
def labs : List Str := ["k", "n", "to", "w"]
def rangesL : List D := [.tup [.int 0, .int 3], .tup [.int 0, .int 9], .tup [.int (-2), .int 2], .tup [.int 1, .int 1], .tup [.int (-999), .int 1000]]
structure Lot (ns : List Str) (f : List (Str × D)) : Prop where
  s : (f.map (·.1)).Sublist labs
  k : ∀ q ∈ f, q.2 ∈ rangesL ∨ ∃ c ∈ ns, q.2 = .str c
def bLd : Fx.Env → MS := (seqS (Fx.set 4 (cal (cns (getv 0) (cns (fun _ => pur (.int 7)) (fun _ => pur []))) g_law_draw)) (ifS (tst (bin ltD (getv 4) (fun _ => pur (.int 3)))) (Fx.drop (met (getv 2) (cns (dsp mkT (cns (getv 3) (cns (cal (cns (getv 0) (cns (dsp mkL (cns (dsp mkT (cns (fun _ => pur (.int 0)) (cns (fun _ => pur (.int 3)) (fun _ => pur [])))) (cns (dsp mkT (cns (fun _ => pur (.int 0)) (cns (fun _ => pur (.int 9)) (fun _ => pur [])))) (cns (dsp mkT (cns (un negD (fun _ => pur (.int 2))) (cns (fun _ => pur (.int 2)) (fun _ => pur [])))) (cns (dsp mkT (cns (fun _ => pur (.int 1)) (cns (fun _ => pur (.int 1)) (fun _ => pur [])))) (cns (dsp mkT (cns (un negD (fun _ => pur (.int 999))) (cns (fun _ => pur (.int 1000)) (fun _ => pur [])))) (fun _ => pur []))))))) (fun _ => pur []))) g_law_any) (fun _ => pur [])))) (fun _ => pur [])) appD)) (ifS (tst (bin ltD (getv 4) (fun _ => pur (.int 5)))) (Fx.drop (met (getv 2) (cns (dsp mkT (cns (getv 3) (cns (cal (cns (getv 0) (cns (getv 1) (fun _ => pur []))) g_law_any) (fun _ => pur [])))) (fun _ => pur [])) appD)) pass)))
theorem ldraw_eq : b_law_lot = seqS (Fx.set 2 (dsp mkN (fun _ => pur []))) (seqS (forS (itf (iteV (tst (bin gtD (cal (cns (getv 0) (cns (fun _ => pur (.int 8)) (fun _ => pur []))) g_law_draw) (fun _ => pur (.int 0)))) (dsp mkT (cns (fun _ => pur (.str "k")) (cns (fun _ => pur (.str "n")) (cns (fun _ => pur (.str "to")) (cns (fun _ => pur (.str "w")) (fun _ => pur [])))))) (dsp mkT (fun _ => pur [])))) (toN 3) bLd) (frzV 2 (Fx.ret (cal (cns (getv 2) (fun _ => pur [])) tupleD)))) := rfl
theorem dsp2 {f1 f2 : Fx.Env → M D} {env : Fx.Env} {S S1 S2 : Store} {a b : D} (h1 : f1 env S = .ok a S1) (h2 : f2 env S1 = .ok b S2) : dsp mkT (cns f1 (cns f2 (fun _ => pur []))) env S = .ok (.tup [a, b]) S2 := by
  rw [dsp]
  simp only [bd, cns, h1, h2, pur]
  exact mkT_ok (sz 2 (by decide))
theorem dsp3 {f1 f2 f3 : Fx.Env → M D} {env : Fx.Env} {S S1 S2 S3 : Store} {a b c : D} (h1 : f1 env S = .ok a S1) (h2 : f2 env S1 = .ok b S2) (h3 : f3 env S2 = .ok c S3) : dsp mkT (cns f1 (cns f2 (cns f3 (fun _ => pur [])))) env S = .ok (.tup [a, b, c]) S3 := by
  rw [dsp]
  simp only [bd, cns, h1, h2, h3, pur]
  exact mkT_ok (sz 3 (by decide))
theorem dsp4 {f1 f2 f3 f4 : Fx.Env → M D} {env : Fx.Env} {S S1 S2 S3 S4 : Store} {a b c d : D} (h1 : f1 env S = .ok a S1) (h2 : f2 env S1 = .ok b S2) (h3 : f3 env S2 = .ok c S3) (h4 : f4 env S3 = .ok d S4) : dsp mkT (cns f1 (cns f2 (cns f3 (cns f4 (fun _ => pur []))))) env S = .ok (.tup [a, b, c, d]) S4 := by
  rw [dsp]
  simp only [bd, cns, h1, h2, h3, h4, pur]
  exact mkT_ok (sz 4 (by decide))
theorem ldraw_step {ns : List Str} {x : Str} {p : Nat} {z4 : Option D} {f : List (Str × D)} {S R : Store} (hn : 0 < ns.length) (hn2 : ns.length ≤ 10) (hf : f.length ≤ 100) (hF : Fd S R) (hR : R[p]? = some (some (.lst (f.map row)))) :
    ∃ (z : Option D) (g : List (Str × D)) (S' R' : Store), bLd [some (.obj 0), some (.lst (ns.map .str)), some (.obj (p + 1)), some (.str x), z4] S = .ok (.nx [some (.obj 0), some (.lst (ns.map .str)), some (.obj (p + 1)), some (.str x), z]) S' ∧
      Fd S' R' ∧ (∀ o, R'.length = R.length ∧ (R'.set p o) = R.set p o) ∧ R'[p]? = some (some (.lst ((f ++ g).map row))) ∧ (g = [] ∨ ∃ k, g = [(x, k)] ∧ (k ∈ rangesL ∨ ∃ c ∈ ns, k = .str c)) := by
  let env : Fx.Env := [some (.obj 0), some (.lst (ns.map .str)), some (.obj (p + 1)), some (.str x), z4]
  obtain ⟨r, S1, hr, hF1, e1⟩ := drawnk (i := 0) (env := env) (m := 7) rfl (by decide) (by decide) hF
  let env1 : Fx.Env := [some (.obj 0), some (.lst (ns.map .str)), some (.obj (p + 1)), some (.str x), some (.int r)]
  have s1 : Fx.set 4 (cal (cns (getv 0) (cns (fun _ => pur (.int 7)) (fun _ => pur []))) g_law_draw) env S = .ok (.nx env1) S1 := set_ok e1
  have c1 : tst (bin ltD (getv 4) (fun _ => pur (.int 3))) env1 S1 = .ok (decide ((r : Int) < 3)) S1 := tst_ok ((bink (g := ltD) (getv_ok (i := 4) rfl)).trans rfl)
  have c2 : tst (bin ltD (getv 4) (fun _ => pur (.int 5))) env1 S1 = .ok (decide ((r : Int) < 5)) S1 := tst_ok ((bink (g := ltD) (getv_ok (i := 4) rfl)).trans rfl)
  have hp : p < R.length := Fx.lt_of_some hR
  have rs : ∀ (v : OD) (o : Option OD), (R.set p (some v)).length = R.length ∧ ((R.set p (some v)).set p o) = R.set p o := fun v o => ⟨by rw [List.length_set], by rw [List.set_set]⟩
  by_cases h3 : (r : Int) < 3
  · rw [decide_eq_true h3] at c1
    obtain ⟨k, S2, hk, hF2, e2⟩ := anyn (i := 0) (env := env1) (S := S1) (f := (dsp mkL (cns (dsp mkT (cns (fun _ => pur (.int 0)) (cns (fun _ => pur (.int 3)) (fun _ => pur [])))) (cns (dsp mkT (cns (fun _ => pur (.int 0)) (cns (fun _ => pur (.int 9)) (fun _ => pur [])))) (cns (dsp mkT (cns (un negD (fun _ => pur (.int 2))) (cns (fun _ => pur (.int 2)) (fun _ => pur [])))) (cns (dsp mkT (cns (fun _ => pur (.int 1)) (cns (fun _ => pur (.int 1)) (fun _ => pur [])))) (cns (dsp mkT (cns (un negD (fun _ => pur (.int 999))) (cns (fun _ => pur (.int 1000)) (fun _ => pur [])))) (fun _ => pur [])))))))) (xs := rangesL) rfl rfl (by decide) (by decide) hF1
    have y := dsp2 (f1 := getv 3) (a := .str x) (S1 := S1) (getv_ok (i := 3) (env := env1) rfl) e2
    obtain ⟨a1, a2⟩ := appd_ok (i := 2) (n := p) (env := env1) rfl hF1 hR y hF2 hR (by rw [List.length_map]; omega)
    refine ⟨some (.int r), [(x, k)], _, _, (by unfold bLd; exact (seq_nx s1).trans ((ifS_t c1).trans a2)), a1, fun o => rs _ o, ?_, .inr ⟨k, rfl, .inl hk⟩⟩
    rw [List.getElem?_set_self hp, List.map_append]; rfl
  · rw [decide_eq_false h3] at c1
    by_cases h5 : (r : Int) < 5
    · rw [decide_eq_true h5] at c2
      obtain ⟨k, S2, hk, hF2, e2⟩ := anyn (i := 0) (env := env1) (S := S1) (f := getv 1) (xs := ns.map .str) rfl (getv_ok rfl) (by rw [List.length_map]; exact hn) (by rw [List.length_map]; omega) hF1
      have y := dsp2 (f1 := getv 3) (a := .str x) (S1 := S1) (getv_ok (i := 3) (env := env1) rfl) e2
      obtain ⟨a1, a2⟩ := appd_ok (i := 2) (n := p) (env := env1) rfl hF1 hR y hF2 hR (by rw [List.length_map]; omega)
      obtain ⟨c, hc, rfl⟩ := List.mem_map.mp hk
      refine ⟨some (.int r), [(x, .str c)], _, _, (by unfold bLd; exact (seq_nx s1).trans ((ifS_f c1).trans ((ifS_t c2).trans a2))), a1, fun o => rs _ o, ?_, .inr ⟨_, rfl, .inr ⟨c, hc, rfl⟩⟩⟩
      rw [List.getElem?_set_self hp, List.map_append]; rfl
    · rw [decide_eq_false h5] at c2
      exact ⟨some (.int r), [], S1, R, (by unfold bLd; exact (seq_nx s1).trans ((ifS_f c1).trans ((ifS_f c2).trans rfl))), hF1, fun o => ⟨rfl, rfl⟩, by rw [List.append_nil]; exact hR, .inl rfl⟩
theorem ldraw_loop {ns : List Str} {p : Nat} (hn : 0 < ns.length) (hn2 : ns.length ≤ 10) : ∀ (ls : List Str) (z3 z4 : Option D) (f : List (Str × D)) (S R : Store), f.length + ls.length ≤ 100 → Fd S R → R[p]? = some (some (.lst (f.map row))) →
    ∃ (y3 y4 : Option D) (g : List (Str × D)) (S' R' : Store), loop (toN 3) bLd (ls.map .str) [some (.obj 0), some (.lst (ns.map .str)), some (.obj (p + 1)), z3, z4] S = .ok (.nx [some (.obj 0), some (.lst (ns.map .str)), some (.obj (p + 1)), y3, y4]) S' ∧
      Fd S' R' ∧ (∀ o, R'.length = R.length ∧ (R'.set p o) = R.set p o) ∧ R'[p]? = some (some (.lst ((f ++ g).map row))) ∧ (g.map (·.1)).Sublist ls ∧ ∀ q ∈ g, q.2 ∈ rangesL ∨ ∃ c ∈ ns, q.2 = .str c
  | [], z3, z4, f, S, R, _, hF, hR => ⟨z3, z4, [], S, R, rfl, hF, fun o => ⟨rfl, rfl⟩, by rw [List.append_nil]; exact hR, List.Sublist.slnil, by simp⟩
  | x :: ls, z3, z4, f, S, R, hl, hF, hR => by
    obtain ⟨z, g, S1, R1, e1, hF1, hs, hR1, hg⟩ := ldraw_step (x := x) (z4 := z4) hn hn2 (by simp at hl; omega) hF hR
    have gl : g.length ≤ 1 := by rcases hg with rfl | ⟨k, rfl, _⟩ <;> simp
    obtain ⟨y3, y4, g2, S2, R2, e2, hF2, hs2, hR2, hsub, hk⟩ := ldraw_loop hn hn2 ls (some (.str x)) z (f ++ g) S1 R1 (by rw [List.length_append]; simp at hl; omega) hF1 hR1
    refine ⟨y3, y4, g ++ g2, S2, R2, ?_, hF2, fun o => ⟨(hs2 o).1.trans (hs o).1, (hs2 o).2.trans (hs o).2⟩, by rw [← List.append_assoc]; exact hR2, ?_, ?_⟩
    · rw [List.map_cons]
      unfold loop
      have : toN 3 (.str x) [some (.obj 0), some (.lst (ns.map .str)), some (.obj (p + 1)), z3, z4] = some [some (.obj 0), some (.lst (ns.map .str)), some (.obj (p + 1)), some (.str x), z4] := rfl
      simp only [this, e1]
      exact e2
    · rcases hg with rfl | ⟨k, rfl, _⟩
      · exact hsub.cons _
      · exact hsub.cons_cons x
    · intro q hq
      rcases List.mem_append.mp hq with h | h
      · rcases hg with rfl | ⟨k, rfl, hk⟩
        · cases h
        · rw [List.mem_singleton.mp h]; exact hk
      · exact hk q h
theorem ldraw_ok {ns : List Str} {S R : Store} (hn : 0 < ns.length) (hn2 : ns.length ≤ 10) (hF : Fd S R) : ∃ (f : List (Str × D)) (S' R' : Store), g_law_lot [.obj 0, .lst (ns.map .str)] S = .ok (.tup (f.map row)) S' ∧ Lot ns f ∧ Fd S' R' ∧ Ext R R' := by
  let p : Nat := R.length
  have el : S.length = p + 1 := hF.len
  have s1 : Fx.set 2 (dsp mkN (fun _ => pur [])) (ent 5 [.obj 0, .lst (ns.map .str)]) S = .ok (.nx [some (.obj 0), some (.lst (ns.map .str)), some (.obj (p + 1)), none, none]) (S ++ [some (OD.lst [])]) := by
    have := mkN_ok (f := fun _ => pur []) (env := ent 5 [.obj 0, .lst (ns.map .str)]) (S := S) (ds := []) rfl (by decide)
    rw [el] at this
    exact set_ok this
  let env1 : Fx.Env := [some (.obj 0), some (.lst (ns.map .str)), some (.obj (p + 1)), none, none]
  have hF1 := hF.app (some (.lst []))
  obtain ⟨r, S2, hr, hF2, e2⟩ := drawnk (i := 0) (env := env1) (m := 8) rfl (by decide) (by decide) hF1
  have c2 : tst (bin gtD (cal (cns (getv 0) (cns (fun _ => pur (.int 8)) (fun _ => pur []))) g_law_draw) (fun _ => pur (.int 0))) env1 (S ++ [some (OD.lst [])]) = .ok (decide ((0 : Int) < r)) S2 := tst_ok ((bin_okS (g := gtD) (f2 := fun _ => pur (.int 0)) (b := .int 0) e2 rfl).trans rfl)
  obtain ⟨ls, hls, it⟩ : ∃ ls : List Str, ls.Sublist labs ∧ itf (iteV (tst (bin gtD (cal (cns (getv 0) (cns (fun _ => pur (.int 8)) (fun _ => pur []))) g_law_draw) (fun _ => pur (.int 0)))) (dsp mkT (cns (fun _ => pur (.str "k")) (cns (fun _ => pur (.str "n")) (cns (fun _ => pur (.str "to")) (cns (fun _ => pur (.str "w")) (fun _ => pur [])))))) (dsp mkT (fun _ => pur []))) env1 (S ++ [some (OD.lst [])]) = .ok (ls.map .str) S2 := by
    by_cases h : (0 : Int) < r
    · rw [decide_eq_true h] at c2
      exact ⟨labs, List.Sublist.refl _, by simp only [itf, bd, ite_t c2]; rfl⟩
    · rw [decide_eq_false h] at c2
      exact ⟨[], List.nil_sublist _, by simp only [itf, bd, ite_f c2]; rfl⟩
  have hR2 : (R ++ [some (OD.lst [])])[p]? = some (some (.lst (([] : List (Str × D)).map row))) := by simp [p]
  have hl : ls.length ≤ 4 := hls.length_le
  obtain ⟨y3, y4, g, S3, R3, e3, hF3, hs, hR3, hsub, hk⟩ := ldraw_loop hn hn2 ls none none [] S2 _ (by simp; omega) hF2 hR2
  rw [List.nil_append] at hR3
  have hS3 : S3[p + 1]? = some (some (.lst (g.map row))) := by rw [hF3.get]; exact hR3
  have gl : g.length ≤ 4 := by have := hsub.length_le; rw [List.length_map] at this; omega
  refine ⟨g, S3.set (p + 1) none, R3.set p none, body_rt (b := b_law_lot) rfl ?_, ⟨hsub.trans hls, hk⟩, hF3.set p none, ?_⟩
  · rw [ldraw_eq]
    refine (seq_nx s1).trans ((seq_nx ((for_ok it).trans e3)).trans ?_)
    show (match S3[p + 1]? with | some (some (.lst xs)) => Fx.ret (cal (cns (getv 2) (fun _ => pur [])) tupleD) (([some (.obj 0), some (.lst (ns.map .str)), some (.obj (p + 1)), y3, y4] : Fx.Env).set 2 (some (.lst xs))) (S3.set (p + 1) none) | _ => RsS.no) = _
    rw [hS3]
    exact ret_ok ((cal1_ok (getv_ok rfl)).trans (tup_lst (by rw [List.length_map]; exact sz _ (by omega))))
  · rw [(hs none).2]
    exact (Ext.app R _).set (Nat.le_refl _) _
end K18

end
/-! ## K18J -/
section
namespace K18
variable [Fx.Tabl]
open PySem Fx
open L2 (atI ixN Key)
theorem drawz {i m : Nat} {env : Fx.Env} {S R : Store} (k : Int) (hk : k = (m : Nat)) (hi : env[i]? = some (some (.obj 0))) (hm : 0 < m) (hb : m < 1000000) (h : Fd S R) :
    ∃ (r : Nat) (S' : Store), r < m ∧ Fd S' R ∧ cal (cns (getv i) (cns (fun _ => pur (.int k)) (fun _ => pur []))) g_law_draw env S = .ok (.int r) S' := by
  subst hk; exact drawnk hi hm hb h
def cls3 : List Str := ["a", "get", "lid"]
/-- a drawn schema -/
structure Sch (sc : List Form) : Prop where
  n : (sc.map (·.1)).Sublist cls3
  p : 0 < sc.length
  l : ∀ f ∈ sc, Lot (sc.map (·.1)) f.2
theorem forms_of {ns : List Str} : ∀ {zs : List (D × D)} {ms : List Str}, zs.map (·.1) = ms.map .str → (∀ z ∈ zs, ∃ x f, z.1 = .str x ∧ z.2 = .tup [.str x, .tup (f.map row)] ∧ Lot ns f) → ∃ sc : List Form, zs.map (·.2) = sc.map frow ∧ sc.map (·.1) = ms ∧ ∀ f ∈ sc, Lot ns f.2
  | [], [], _, _ => ⟨[], rfl, rfl, by simp⟩
  | z :: zs, m :: ms, h, hz => by
    rw [List.map_cons, List.map_cons] at h
    injection h with h1 h2
    obtain ⟨x, f, e1, e2, e3⟩ := hz z (by simp)
    obtain ⟨sc, k1, k2, k3⟩ := forms_of h2 fun z' hz' => hz z' (List.mem_cons_of_mem _ hz')
    rw [e1] at h1
    have hx : x = m := D.str.inj h1
    subst hx
    refine ⟨(x, f) :: sc, by rw [List.map_cons, List.map_cons, e2, k1], by rw [List.map_cons, k2], fun f' hf' => ?_⟩
    rcases List.mem_cons.mp hf' with rfl | h
    · exact e3
    · exact k3 f' h
  | [], _ :: _, h, _ => by cases h
  | _ :: _, [], h, _ => by cases h
theorem classes_ok {S R : Store} (hF : Fd S R) : ∃ (sc : List Form) (S' R' : Store), g_law_classes [.obj 0] S = .ok (.tup (sc.map frow)) S' ∧ Sch sc ∧ Fd S' R' ∧ Ext R R' := by
  let env0 : Fx.Env := [some (.obj 0), none, none]
  obtain ⟨r, S1, hr, hF1, e1⟩ := drawz (i := 0) (env := env0) (m := 3) 3 rfl rfl (by decide) (by decide) hF
  let ns : List Str := cls3.take (1 + r)
  have nl : ns.length = 1 + r := by
    show (cls3.take (1 + r)).length = _
    rw [List.length_take]
    have : cls3.length = 3 := rfl
    omega
  have s1 : Fx.set 1 (slc (dsp mkL (cns (fun _ => pur (.str "a")) (cns (fun _ => pur (.str "get")) (cns (fun _ => pur (.str "lid")) (fun _ => pur []))))) (fun _ => pur none) (fun env => bd ((bin (addD mkL) (fun _ => pur (.int 1)) (cal (cns (getv 0) (cns (fun _ => pur (.int 3)) (fun _ => pur []))) g_law_draw)) env) intOf)) env0 S = .ok (.nx [some (.obj 0), some (.lst (ns.map .str)), none]) S1 := by
    refine set_ok ?_
    have a := (bin_okS (g := addD mkL) (f1 := fun _ => pur (.int 1)) (a := .int 1) (S1 := S) rfl e1).trans (addi_ok (mk := mkL))
    have ei : (1 : Int) + (r : Int) = ((1 + r : Nat) : Int) := by omega
    rw [ei] at a
    have l : dsp mkL (cns (fun _ => pur (.str "a")) (cns (fun _ => pur (.str "get")) (cns (fun _ => pur (.str "lid")) (fun _ => pur [])))) env0 S = .ok (.lst (cls3.map .str)) S := rfl
    have c : cutD (cls3.map D.str) none (some ((1 + r : Nat) : Int)) = ns.map .str := by
      rw [cut_take (by rw [List.length_map]; show 1 + r ≤ 3; omega), List.map_take]
    simp only [slc, bd, l, pur, a, intOf]
    show (if (cls3.map D.str).length ≤ sizeLine then pur (D.lst (cutD (cls3.map D.str) none (some ((1 + r : Nat) : Int)))) else mno : M D) S1 = _
    rw [if_pos (show (cls3.map D.str).length ≤ sizeLine from sz 3 (by decide)), c]; rfl
  obtain ⟨zs, S2, k1, k2, k3, R2, hF2, hE2⟩ := comp_rel (t := toN 2) (el := (dsp mkT (cns (getv 2) (cns (cal (cns (getv 0) (cns (getv 1) (fun _ => pur []))) g_law_lot) (fun _ => pur []))))) (env0 := [some (.obj 0), some (.lst (ns.map .str)), none]) (fun S => ∃ R', Fd S R' ∧ Ext R R')
    (fun d y => ∃ x f, d = .str x ∧ y = .tup [.str x, .tup (f.map row)] ∧ Lot ns f) (ns.map .str) [] S1 (by rw [List.length_map, nl]; exact sz _ (by simp; omega)) ⟨R, hF1, Ext.refl R⟩ (by
      rintro d hd T ⟨R', hF', hE'⟩
      obtain ⟨x, hx, rfl⟩ := List.mem_map.mp hd
      obtain ⟨f, T', R'', e, hL, hF'', hE''⟩ := ldraw_ok (ns := ns) (by omega) (by omega) hF'
      let env1 : Fx.Env := [some (.obj 0), some (.lst (ns.map .str)), some (.str x)]
      have c := (cal2_ok (g := g_law_lot) (f1 := getv 0) (f2 := getv 1) (env := env1) (S := T) (getv_ok rfl) (getv_ok rfl)).trans e
      exact ⟨env1, rfl, _, T', dsp2 (f1 := getv 2) (getv_ok (i := 2) rfl) c, ⟨x, f, rfl, rfl, hL⟩, R'', hF'', hE'.trans hE''⟩)
  obtain ⟨sc, h1, h2, h3⟩ := forms_of k2 k3
  have e2 : cmp [2] mkL (itf (getv 1)) (toN 2) (fun _ => pur true) (dsp mkT (cns (getv 2) (cns (cal (cns (getv 0) (cns (getv 1) (fun _ => pur []))) g_law_lot) (fun _ => pur [])))) [some (.obj 0), some (.lst (ns.map .str)), none] S1 = .ok (.lst (sc.map frow)) S2 := by
    rw [← h1]
    exact k1
  refine ⟨sc, S2, R2, body_rt (b := b_law_classes) rfl ((seq_nx s1).trans (ret_okS ((cal1_okS e2).trans (tup_lst ?_)))), ⟨by rw [h2]; exact List.take_sublist _ _, ?_, by rw [h2]; exact h3⟩, hF2, hE2⟩
  · have : sc.length = ns.length := by rw [← h2, List.length_map]
    rw [List.length_map, this, nl]; exact sz _ (by omega)
  · have : sc.length = ns.length := by rw [← h2, List.length_map]
    omega
theorem labs_ok : ∀ x ∈ labs, gd 0 (.str x) = true ∧ x.length ≤ 2 := by decide +kernel
theorem cls3_ok : ∀ x ∈ cls3, gd 0 (.str x) = true ∧ x.length ≤ 3 := by decide +kernel
theorem ranges_ok : ∀ d ∈ rangesL, In 1000 22 1 d ∧ ∃ a b : Int, d = .tup [.int a, .int b] ∧ a ≤ b := by
  have h : rangesL.all (fun d => gd 1000 d && decide (wgt d ≤ 22) && decide (dep d ≤ 1) && rangeP d) = true := by decide +kernel
  intro d hd
  have := List.all_eq_true.mp h d hd
  simp only [Bool.and_eq_true, decide_eq_true_eq] at this
  refine ⟨⟨this.1.1.1, this.1.1.2, this.1.2⟩, ?_⟩
  have := this.2
  unfold rangeP at this
  split at this
  · exact ⟨_, _, rfl, by simpa using this⟩
  · cases this
theorem Lot.lab {ns : List Str} {f : List (Str × D)} (h : Lot ns f) {q : Str × D} (hq : q ∈ f) : q.1 ∈ labs := h.s.subset (List.mem_map.mpr ⟨q, hq, rfl⟩)
theorem Lot.len {ns : List Str} {f : List (Str × D)} (h : Lot ns f) : f.length ≤ 4 := by
  have := h.s.length_le
  rwa [List.length_map] at this
def cls5 : List Str := ["a", "get", "lid", "b", "tag"]
theorem cls5_ok : ∀ x ∈ cls5, gd 0 (.str x) = true ∧ x.length ≤ 3 := by decide +kernel
theorem Lot.kind {ns : List Str} {f : List (Str × D)} (h : Lot ns f) (hn : ∀ c ∈ ns, c ∈ cls5) {q : Str × D} (hq : q ∈ f) : In 1000 22 1 q.2 := by
  rcases h.k q hq with hk | ⟨c, hc, e⟩
  · exact (ranges_ok _ hk).1
  · rw [e]
    obtain ⟨a, b⟩ := cls5_ok c (hn c hc)
    exact ⟨gd_mono (Nat.zero_le _) _ a, Nat.le_trans b (by decide), Nat.zero_le _⟩
theorem Lot.inn {ns : List Str} {f : List (Str × D)} (h : Lot ns f) (hn : ∀ c ∈ ns, c ∈ cls5) : In 1000 108 3 (.tup (f.map row)) := by
  have r1 : ∀ q ∈ f, In 1000 26 2 (row q) := fun q hq => by
    have hk := h.kind hn hq
    obtain ⟨a, b⟩ := labs_ok _ (h.lab hq)
    refine In.tup (P := 1) (fun d hd => ?_) ?_
    · simp only [List.mem_cons, List.not_mem_nil, or_false] at hd
      rcases hd with rfl | rfl
      · exact ⟨gd_mono (Nat.zero_le _) _ a, Nat.zero_le _⟩
      · exact ⟨hk.g, hk.p⟩
    · have := hk.w
      have : wgt (.str q.1) ≤ 2 := b
      rw [sw_cons, sw_cons, sw_nil]; omega
  refine In.tup (P := 2) (fun d hd => ?_) ?_
  · obtain ⟨q, hq, rfl⟩ := List.mem_map.mp hd
    exact ⟨(r1 q hq).g, (r1 q hq).p⟩
  · have := sw_map_le row 26 fun q hq => (r1 q hq).w
    have := h.len
    refine Nat.le_trans ‹sw (f.map row) ≤ _› ?_
    omega
theorem Sch.cls {sc : List Form} (h : Sch sc) : ∀ c ∈ sc.map (·.1), c ∈ cls5 := fun c hc => by
  have := h.n.subset hc
  simp only [cls3, cls5, List.mem_cons] at this ⊢
  rcases this with h | h | h | h
  · exact .inl h
  · exact .inr (.inl h)
  · exact .inr (.inr (.inl h))
  · cases h
theorem Sch.inn {sc : List Form} (h : Sch sc) : In 1000 400 5 (.tup (sc.map frow)) := by
  have r1 : ∀ f ∈ sc, In 1000 114 4 (frow f) := fun f hf => by
    have hl := (h.l f hf).inn h.cls
    obtain ⟨a, b⟩ := cls5_ok _ (h.cls f.1 (List.mem_map.mpr ⟨f, hf, rfl⟩))
    refine In.tup (P := 3) (fun d hd => ?_) ?_
    · simp only [List.mem_cons, List.not_mem_nil, or_false] at hd
      rcases hd with rfl | rfl
      · exact ⟨gd_mono (Nat.zero_le _) _ a, Nat.zero_le _⟩
      · exact ⟨hl.g, hl.p⟩
    · have := hl.w
      have : wgt (.str f.1) ≤ 3 := b
      rw [sw_cons, sw_cons, sw_nil]; omega
  refine In.tup (P := 4) (fun d hd => ?_) ?_
  · obtain ⟨q, hq, rfl⟩ := List.mem_map.mp hd
    exact ⟨(r1 q hq).g, (r1 q hq).p⟩
  · have := sw_map_le frow 114 fun q hq => (r1 q hq).w
    have hl : sc.length ≤ 3 := by have := h.n.length_le; rw [List.length_map] at this; exact this
    refine Nat.le_trans this ?_
    omega
theorem formOf_isSome {c : Str} : ∀ {sc : List Form}, c ∈ sc.map (·.1) → (formOf sc c).isSome = true
  | f :: sc, h => by
    rw [formOf_cons]
    split
    · rfl
    · rename_i hne
      rw [List.map_cons] at h
      rcases List.mem_cons.mp h with e | h
      · exact absurd e.symm hne
      · exact formOf_isSome h
  | [], h => by cases h
theorem Sch.nd {sc : List Form} (h : Sch sc) : (sc.map (·.1)).Nodup := h.n.nodup (by decide +kernel)
theorem Sch.fnd {sc : List Form} (h : Sch sc) {f : Form} (hf : f ∈ sc) : (f.2.map (·.1)).Nodup := (h.l f hf).s.nodup (by decide +kernel)
end K18

end
/-! ## K18c -/
section
namespace K18
variable [Fx.Tabl]
open PySem Fx
open L2 (atI ixN Key)
def isS (x : Str) : D → Bool
  | .str y => decide (x = y)
  | _ => false
theorem eqS {n m : Nat} {x : Str} {d : D} {S : Store} (hx : gd n (.str x) = true) (hd : gd m d = true) (hp : dep d ≤ 60) : eqD (.str x) d S = .ok (.bl (isS x d)) S := by
  rw [eqD_eq hx hd (Nat.zero_le _) (Nat.le_trans hp (by decide))]
  cases d <;> first
    | (simp [eqP, py, PyData.eqv, isS, Bool.beq_eq_decide_eq]; done)
    | (simp [gd] at hd; done)
theorem eqP_comm_str {x : Str} {d : D} : eqP d (.str x) = isS x d := by
  cases d <;> simp [eqP, py, PyData.eqv, isS, Bool.beq_eq_decide_eq, eq_comm]
theorem eqS' {n m : Nat} {x : Str} {d : D} {S : Store} (hx : gd n (.str x) = true) (hd : gd m d = true) (hp : dep d ≤ 60) : eqD d (.str x) S = .ok (.bl (isS x d)) S := by
  rw [eqD_eq hd hx (Nat.le_trans hp (by decide)) (Nat.zero_le _), eqP_comm_str]
def formD (sc : List Form) : D → Option (List (Str × D))
  | .str c => formOf sc c
  | _ => none
theorem formD_cons (f : Form) (sc : List Form) (d : D) : formD (f :: sc) d = if isS f.1 d = true then some f.2 else formD sc d := by
  cases d <;> simp [formD, isS, formOf_cons]
def bFo : Fx.Env → MS := ifS (tst (bin eqD (getv 2) (getv 1))) (Fx.ret (getv 3)) pass
theorem form_loop {n m : Nat} {sd d : D} (hd : gd m d = true) (hp : dep d ≤ 60) (S : Store) : ∀ (sc : List Form) (z1 z2 : Option D), (∀ f ∈ sc, gd n (.str f.1) = true) →
    match formD sc d with
      | some f => loop (toTup (toCons (toN 2) (toCons (toN 3) toNil))) bFo (sc.map frow) [some sd, some d, z1, z2] S = .ok (.rt (.tup (f.map row))) S
      | none => ∃ env, loop (toTup (toCons (toN 2) (toCons (toN 3) toNil))) bFo (sc.map frow) [some sd, some d, z1, z2] S = .ok (.nx env) S
  | [], _, _, _ => by
    have : formD [] d = none := by cases d <;> rfl
    rw [this]; exact ⟨_, rfl⟩
  | f :: sc, z1, z2, h => by
    have hf := h f (by simp)
    rw [formD_cons]
    let env1 : Fx.Env := [some sd, some d, some (.str f.1), some (.tup (f.2.map row))]
    have c := tst_ok ((bin_ok (g := eqD) (getv_ok (i := 2) (env := env1) (S := S) rfl) (getv_ok (i := 1) rfl)).trans (eqS hf hd hp))
    have hs : toTup (toCons (toN 2) (toCons (toN 3) toNil)) (frow f) [some sd, some d, z1, z2] = some env1 := rfl
    rw [List.map_cons]
    unfold loop
    cases hq : isS f.1 d with
    | true =>
      rw [hq] at c
      have e : bFo env1 S = .ok (.rt (.tup (f.2.map row))) S := (ifS_t c).trans (ret_ok (getv_ok rfl))
      simp only [hs, e, if_true]
    | false =>
      rw [hq] at c
      have e : bFo env1 S = .ok (.nx env1) S := (ifS_f c).trans rfl
      have ih := form_loop (sd := sd) hd hp S sc (some (.str f.1)) (some (.tup (f.2.map row))) fun g hg => h g (List.mem_cons_of_mem _ hg)
      simp only [hs, e, Bool.false_eq_true, if_false]
      exact ih
def oD (o : Option (List (Str × D))) : D := match o with
  | some f => .tup (f.map row)
  | none => .non
theorem form_of_ok {n m : Nat} {sc : List Form} {d : D} (S : Store) (h : ∀ f ∈ sc, gd n (.str f.1) = true) (hd : gd m d = true) (hp : dep d ≤ 60) : g_form_of [.tup (sc.map frow), d] S = .ok (oD (formD sc d)) S := by
  have L := form_loop (sd := .tup (sc.map frow)) hd hp S sc none none h
  cases e : formD sc d with
  | some f =>
    rw [e] at L
    exact body_rt rfl (seq_rt ((for_ok rfl).trans L))
  | none =>
    rw [e] at L
    obtain ⟨env, L⟩ := L
    exact body_rt rfl ((seq_nx ((for_ok rfl).trans L)).trans rfl)
def placeF : List (Str × D) → Nat → D → Option Nat
  | [], _, _ => none
  | q :: f, k, d => if isS q.1 d = true then some k else placeF f (k + 1) d
def bPl : Fx.Env → MS := ifS (tst (bin eqD (getv 3) (getv 1))) (Fx.ret (getv 2)) pass
def tPl : D → Fx.Env → Option Fx.Env := toTup (toCons (toN 2) (toCons (toTup (toCons (toN 3) (toCons (toN 4) toNil))) toNil))
theorem place_loop {n m : Nat} {fd d : D} (hd : gd m d = true) (hp : dep d ≤ 60) (S : Store) : ∀ (f : List (Str × D)) (k : Nat) (z1 z2 z3 : Option D), (∀ q ∈ f, gd n (.str q.1) = true) →
    match placeF f k d with
      | some j => loop tPl bPl (enuP k (f.map row)) [some fd, some d, z1, z2, z3] S = .ok (.rt (.int j)) S
      | none => ∃ env, loop tPl bPl (enuP k (f.map row)) [some fd, some d, z1, z2, z3] S = .ok (.nx env) S
  | [], k, _, _, _, _ => ⟨_, rfl⟩
  | q :: f, k, z1, z2, z3, h => by
    have hq := h q (by simp)
    let env1 : Fx.Env := [some fd, some d, some (.int k), some (.str q.1), some q.2]
    have c := tst_ok ((bin_ok (g := eqD) (getv_ok (i := 3) (env := env1) (S := S) rfl) (getv_ok (i := 1) rfl)).trans (eqS hq hd hp))
    show match (if isS q.1 d = true then some k else placeF f (k + 1) d) with
      | some j => loop tPl bPl (.utp [.int k, row q] :: enuP (k + 1) (f.map row)) [some fd, some d, z1, z2, z3] S = .ok (.rt (.int j)) S
      | none => ∃ env, loop tPl bPl (.utp [.int k, row q] :: enuP (k + 1) (f.map row)) [some fd, some d, z1, z2, z3] S = .ok (.nx env) S
    have hs : tPl (.utp [.int k, row q]) [some fd, some d, z1, z2, z3] = some env1 := rfl
    unfold loop
    cases hz : isS q.1 d with
    | true =>
      rw [hz] at c
      have e : bPl env1 S = .ok (.rt (.int k)) S := (ifS_t c).trans (ret_ok (getv_ok rfl))
      simp only [hs, e, if_true]
    | false =>
      rw [hz] at c
      have e : bPl env1 S = .ok (.nx env1) S := (ifS_f c).trans rfl
      have ih := place_loop (fd := fd) hd hp S f (k + 1) (some (.int k)) (some (.str q.1)) (some q.2) fun r hr => h r (List.mem_cons_of_mem _ hr)
      simp only [hs, e, Bool.false_eq_true, if_false]
      exact ih
def nD : Option Nat → D
  | some k => .int k
  | none => .non
theorem place_of_ok {n m : Nat} {f : List (Str × D)} {d : D} (S : Store) (h : ∀ q ∈ f, gd n (.str q.1) = true) (hd : gd m d = true) (hp : dep d ≤ 60) : g_place_of [.tup (f.map row), d] S = .ok (nD (placeF f 0 d)) S := by
  have L := place_loop (fd := .tup (f.map row)) hd hp S f 0 none none none h
  have L : match placeF f 0 d with
      | some j => loop tPl bPl (enuP 0 (f.map row)) (ent 5 [.tup (f.map row), d]) S = .ok (.rt (.int j)) S
      | none => ∃ env, loop tPl bPl (enuP 0 (f.map row)) (ent 5 [.tup (f.map row), d]) S = .ok (.nx env) S := L
  cases e : placeF f 0 d with
  | some j =>
    rw [e] at L
    exact body_rt rfl (seq_rt ((for_ok rfl).trans L))
  | none =>
    rw [e] at L
    obtain ⟨env, L⟩ := L
    exact body_rt rfl ((seq_nx ((for_ok rfl).trans L)).trans rfl)
theorem placeF_get : ∀ {f : List (Str × D)} {k j : Nat} {d : D}, placeF f k d = some j → k ≤ j ∧ ∃ q, f[j - k]? = some q ∧ isS q.1 d = true
  | q :: f, k, j, d, h => by
    unfold placeF at h
    split at h
    · rename_i c; cases h; exact ⟨Nat.le_refl _, q, by simp, c⟩
    · obtain ⟨h1, q', h2, h3⟩ := placeF_get h
      exact ⟨by omega, q', by rw [show j - k = (j - (k + 1)) + 1 by omega]; exact h2, h3⟩
def fieldF : List (Str × D) → D → Option D
  | [], _ => none
  | q :: f, d => if isS q.1 d = true then some q.2 else fieldF f d
theorem fieldF_place : ∀ (f : List (Str × D)) (k : Nat) (d : D), fieldF f d = (placeF f k d).bind fun j => (f[j - k]?).map (·.2)
  | [], _, _ => rfl
  | q :: f, k, d => by
    unfold fieldF placeF
    split
    · simp
    · rw [fieldF_place f (k + 1) d]
      cases e : placeF f (k + 1) d with
      | none => rfl
      | some j =>
        have h1 := (placeF_get e).1
        simp only [Option.bind_some]
        rw [show j - k = (j - (k + 1)) + 1 by omega]; rfl
theorem isi_str {n i : Nat} {d : D} {env : Fx.Env} {S : Store} (h : gd n d = true) (hi : env[i]? = some (some d)) : isi "str" (getv i) env S = .ok (.bl (isStr d)) S := by
  have g : getv i env S = .ok d S := getv_ok hi
  simp only [isi, bd, g]
  cases d <;> first
    | rfl
    | (simp [gd] at h; done)
theorem isi_tup {n i : Nat} {d : D} {env : Fx.Env} {S : Store} (h : gd n d = true) (hi : env[i]? = some (some d)) : isi "tuple" (getv i) env S = .ok (.bl (isTup d)) S := by
  have g : getv i env S = .ok d S := getv_ok hi
  simp only [isi, bd, g]
  cases d <;> first
    | rfl
    | (simp [gd] at h; done)
abbrev Gd (n : Nat) (d : D) : Prop := gd n d = true ∧ dep d ≤ 60
theorem gd_mems {n : Nat} {ds : List D} (h : Gd n (.tup ds)) : ∀ x ∈ ds, Gd n x := fun x hx => ⟨gds_mem.mp (by simpa [gd] using h.1) x hx, by
  have h2 := h.2
  have : dep (.tup ds) = PyData.depthAll (pys ds) + 1 := by simp only [dep, py, PyData.depth]
  exact dep_mem hx (by omega)⟩
theorem lenT {ds : List D} {S : Store} : lenD [.tup ds] S = .ok (.int ds.length) S := rfl
theorem dict_form {f : List (Str × D)} {S : Store} (h : (f.map (·.1)).Nodup) : dictD [.tup (f.map row)] S = .ok (.obj S.length) (S ++ [some (.dct (f.map emb))]) := by
  have z2 : dictD [.tup (f.map row)] S = (bd (opt (pairsK (f.map row))) fun kvs => mkO (.dct (mergeD [] kvs))) S := rfl
  rw [z2]
  have hn : (([] : List (Key × D)) ++ f.map emb).map (·.1) = (f.map (·.1)).map (fun x => (.inr x : Key)) := by simp [List.map_map, Function.comp_def]
  have : mergeD [] (f.map emb) = f.map emb := by
    rw [mergeD_nodup _ _ (by rw [hn]; exact List.pairwise_map.mpr (h.imp fun hab e => hab (by injection e)))]; rfl
  simp only [bd, pairsK_map, opt, pur, mkO, this]
theorem valD_emb (x : Str) : ∀ f : List (Str × D), valD (f.map emb) (.inr x) = fieldF f (.str x)
  | [] => rfl
  | q :: f => by
    have ih := valD_emb x f
    unfold valD at ih ⊢
    rw [List.map_cons, List.find?_cons]
    unfold fieldF
    by_cases h : q.1 = x
    · have e : decide ((emb q).1 = .inr x) = true := by simp [h]
      have e2 : isS q.1 (.str x) = true := by simp [isS, h]
      rw [e, e2]; rfl
    · have e : decide ((emb q).1 = .inr x) = false := by simp [h]
      have e2 : isS q.1 (.str x) = false := by simp [isS, h]
      rw [e, e2, if_neg (by decide)]; exact ih
theorem fkvs_nd {sc : List Form} (h : (sc.map (·.1)).Nodup) : fkvs sc = sc.map fkv := by
  have hn : (([] : List (Key × D)) ++ sc.map fkv).map (·.1) = (sc.map (·.1)).map (fun x => (.inr x : Key)) := by simp [List.map_map, Function.comp_def]
  rw [fkvs, mergeD_nodup _ _ (by rw [hn]; exact List.pairwise_map.mpr (h.imp fun hab e => hab (by injection e)))]; rfl
theorem formOf_some {sc : List Form} {x : Str} {f : List (Str × D)} (h : formOf sc x = some f) : (x, f) ∈ sc := formOf_mem h
theorem valD_fkvs {sc : List Form} (h : (sc.map (·.1)).Nodup) (x : Str) : valD (fkvs sc) (.inr x) = (formOf sc x).map fun f => .tup (f.map row) := by
  rw [fkvs_nd h, valD_fkv]
theorem dget_sc {sc : List Form} {f1 f2 : Fx.Env → M D} {env : Fx.Env} {S : Store} {x : Str} {f : List (Str × D)} (hn : (sc.map (·.1)).Nodup) (h1 : f1 env S = .ok (.tup (sc.map frow)) S) (h2 : ∀ T, f2 env T = .ok (.str x) T) (hf : formOf sc x = some f) :
    bin dgetD (cal (cns f1 (fun _ => pur [])) dictD) f2 env S = .ok (.tup (f.map row)) (S ++ [some (.dct (fkvs sc))]) := by
  have a := (cal1_ok (g := dictD) h1).trans dict_sc
  rw [bin_okS a (h2 _)]
  have hS : (S ++ [some (OD.dct (fkvs sc))])[S.length]? = some (some (.dct (fkvs sc))) := by simp
  simp only [dgetD, objK, bd, hS, keyOf, opt, pur, valD_fkvs hn, hf, Option.map_some]
end K18

end
/-! ## K18d -/
section
namespace K18
variable [Fx.Tabl]
open PySem Fx
open L2 (atI ixN Key)
/-! ### the store of the law -/
abbrev Ob : Type := Nat × Str × List D
abbrev obD (o : Ob) : D := .tup [.int (o.1 : Nat), .str o.2.1, .tup o.2.2]
abbrev houseD (sc : List Form) (lim : Nat) (os : List Ob) : D := .tup [.tup (sc.map frow), .int (lim : Nat), .tup (os.map obD)]
def flatP : D → Bool
  | .non => true
  | .bl _ => true
  | .int _ => true
  | .str _ => true
  | _ => false
structure HouseOk (sc : List Form) (lim : Nat) (os : List Ob) : Prop where
  s : Sch sc
  nd : (os.map (·.1)).Nodup
  lt : ∀ o ∈ os, o.1 < lim
  li : lim ≤ 20
  c : ∀ o ∈ os, o.2.1 ∈ sc.map (·.1)
  v : ∀ o ∈ os, ∀ f, formOf sc o.2.1 = some f → o.2.2.length = f.length
  fl : ∀ o ∈ os, ∀ d ∈ o.2.2, flatP d = true ∧ gd 1000 d = true
  len : os.length ≤ 20
def clsAt (os : List Ob) (i : Int) : Option Str := (os.find? fun o => decide ((o.1 : Int) = i)).map (·.2.1)
abbrev ckv (o : Ob) : Key × D := (.inl (o.1 : Nat), .str o.2.1)
theorem compD_map {t : D → Fx.Env → Option Fx.Env} {kx vx : Fx.Env → M D} {env0 : Fx.Env} {S : Store} {α : Type} (g : α → D) (kv : α → Key × D) (kd : α → D) : ∀ (xs : List α) (acc : List (Key × D)), (∀ x ∈ xs, ∃ env1, t (g x) env0 = some env1 ∧ kx env1 S = .ok (kd x) S ∧ vx env1 S = .ok (kv x).2 S ∧ keyOf (kd x) = some (kv x).1) →
    acc.length + xs.length ≤ 1000 → ((acc ++ xs.map kv).map (·.1)).Nodup → compD t (fun _ => pur true) kx vx env0 (xs.map g) acc S = .ok (.obj S.length) (S ++ [some (.dct (acc ++ xs.map kv))])
  | [], acc, _, _, _ => by
    rw [List.map_nil, List.map_nil, List.append_nil]
    unfold compD
    rfl
  | x :: xs, acc, h, hl, hn => by
    obtain ⟨env1, h1, h2, h3, h4⟩ := h x (by simp)
    rw [List.length_cons] at hl
    have hne : (kv x).1 ∉ acc.map (·.1) := by
      intro hm
      rw [List.map_append, List.map_cons, List.map_cons] at hn
      have := List.nodup_append.mp hn
      exact this.2.2 _ hm _ (by simp) rfl
    have e : putD acc (kv x).1 (kv x).2 = acc ++ [kv x] := by rw [putD_new hne]
    have ih := compD_map (S := S) g kv kd xs (acc ++ [kv x]) (fun y hy => h y (List.mem_cons_of_mem _ hy)) (by rw [List.length_append]; simp; omega) (by simpa using hn)
    rw [List.map_cons]
    unfold compD
    simp only [h1, bdN, pur, if_true, h2, h3, h4, opt, e]
    rw [if_pos (show acc.length < sizeLine from Nat.lt_of_lt_of_le (show acc.length < 300000 by omega) (by decide)), ih]
    simp
theorem clsAt_val (os : List Ob) (i : Int) : valD (os.map ckv) (.inl i) = (clsAt os i).map .str := by
  unfold valD clsAt
  rw [List.find?_map]
  have : ((fun kv : Key × D => decide (kv.1 = .inl i)) ∘ ckv) = fun o : Ob => decide ((o.1 : Int) = i) := by
    funext o
    simp [ckv]
  rw [this]
  cases os.find? fun o => decide ((o.1 : Int) = i) <;> rfl
section
variable {sc : List Form} {lim : Nat} {os : List Ob}
theorem classes_of_ok (S : Store) (h : HouseOk sc lim os) : g_classes_of [houseD sc lim os] S = .ok (.obj S.length) (S ++ [some (.dct (os.map ckv))]) := by
  have it : itf (bin ixD (getv 0) (fun _ => pur (.int 2))) (ent 4 [houseD sc lim os]) S = .ok (os.map obD) S := rfl
  have hn : ((([] : List (Key × D)) ++ os.map ckv).map (·.1)).Nodup := by
    rw [List.nil_append, List.map_map]
    have : ((fun x : Key × D => x.1) ∘ ckv) = fun o : Ob => (Sum.inl (o.1 : Int) : Key) := rfl
    rw [this]
    have := h.nd
    unfold List.Nodup at this ⊢
    rw [List.pairwise_map] at this ⊢
    exact this.imp fun {a b} hab e => hab (by injection e with e; omega)
  have c := compD_map (S := S) (t := toTup (toCons (toN 1) (toCons (toN 2) (toCons (toN 3) toNil)))) (kx := getv 1) (vx := getv 2) (env0 := wipeE (ent 4 [houseD sc lim os]) [1, 2, 3]) obD ckv (fun o => .int (o.1 : Nat)) os [] (fun o ho => ⟨_, rfl, getv_ok rfl, getv_ok rfl, rfl⟩) (by have := h.len; simp; omega) hn
  rw [List.nil_append] at c
  refine body_rt (b := b_classes_of) rfl (ret_okS ?_)
  simp only [cmd, bd, it]
  exact c
def suitsP (os : List Ob) (kind v : D) : Bool := match kind, v with
  | .tup [.int a, .int b], .int i => decide (a ≤ i) && decide (i ≤ b)
  | .str _, .non => true
  | .str c, .int i => decide (clsAt os i = some c)
  | _, _ => false
def intP' : D → Bool
  | .int _ => true
  | _ => false
theorem is_integer_ok {n : Nat} {d : D} (S : Store) (h : gd n d = true) : g_is_integer [d] S = .ok (.bl (intP' d)) S := by
  refine body_rt (b := b_is_integer) rfl (ret_ok ?_)
  cases d <;> first
    | (simp [gd] at h; done)
    | rfl
theorem law_is_integer_ok {n : Nat} {d : D} (S : Store) (h : gd n d = true) : g_law_is_integer [d] S = .ok (.bl (intP' d)) S := by
  refine body_rt (b := b_law_is_integer) rfl (ret_ok ?_)
  cases d <;> first
    | (simp [gd] at h; done)
    | rfl
/-- a kind of a drawn field -/
def KindOk (k : D) : Prop := k ∈ rangesL ∨ ∃ c ∈ cls5, k = .str c
theorem chn_ok {f1 f2 f3 : Fx.Env → M D} {env : Fx.Env} {S : Store} {a i b : Int} (h1 : f1 env S = .ok (.int a) S) (h2 : f2 env S = .ok (.int i) S) (h3 : f3 env S = .ok (.int b) S) : chn leD leD f1 f2 f3 env S = .ok (.bl (decide (a ≤ i) && decide (i ≤ b))) S := by
  simp only [chn, bd, h1, h2, h3, leD, pur, asB]
  by_cases c : a ≤ i <;> simp [c, bd, h3, pur]
theorem in_range_ok {n : Nat} {a b : Int} {v : D} (S : Store) (hv : gd n v = true) : g_in_range [.tup [.int a, .int b], v] S = .ok (.bl (suitsP os (.tup [.int a, .int b]) v)) S := by
  let env : Fx.Env := [some (.tup [.int a, .int b]), some v]
  refine body_rt (b := b_in_range) rfl (ret_ok ?_)
  have c := (cal1_ok (g := g_is_integer) (getv_ok (i := 1) (env := env) (S := S) rfl)).trans (is_integer_ok S hv)
  cases v <;> first
    | (simp [gd] at hv; done)
    | exact andV_f c
    | skip
  rename_i i
  exact (andV_t c).trans (chn_ok (f1 := bin ixD (getv 0) (fun _ => pur (.int 0))) (f2 := getv 1) (f3 := bin ixD (getv 0) (fun _ => pur (.int 1))) rfl (getv_ok rfl) rfl)
theorem orV_t {f g : Fx.Env → M D} {env : Fx.Env} {S : Store} (h : f env S = .ok (.bl true) S) : orV f g env S = .ok (.bl true) S := by simp [orV, bd, h, asB, pur]
theorem orV_f {f g : Fx.Env → M D} {env : Fx.Env} {S : Store} (h : f env S = .ok (.bl false) S) : orV f g env S = g env S := by simp [orV, bd, h, asB, pur]
theorem clsAt_neg {i : Int} (h : i < 0) : clsAt os i = none := by
  unfold clsAt
  have : os.find? (fun o => decide ((o.1 : Int) = i)) = none := by
    rw [List.find?_eq_none]
    intro o _
    simp; omega
  rw [this]; rfl
theorem suits_ok {n p : Nat} {kind v : D} (S : Store) (hS : S[p]? = some (some (.dct (os.map ckv)))) (hk : KindOk kind) (hv : gd n v = true) (hf : flatP v = true) (ho : ∀ o ∈ os, o.2.1 ∈ cls5) : g_suits [kind, v, .obj p] S = .ok (.bl (suitsP os kind v)) S := by
  let env : Fx.Env := [some kind, some v, some (.obj p)]
  have gk : gd 1000 kind = true := by
    rcases hk with hk | ⟨c, hc, rfl⟩
    · exact (ranges_ok _ hk).1.g
    · exact gd_mono (Nat.zero_le _) _ (cls5_ok c hc).1
  have lk : g_is_link [kind] S = .ok (.bl (isStr kind)) S := body_rt (b := b_is_link) rfl (ret_ok (isi_str (i := 0) gk rfl))
  have c0 := notB_ok (tst_ok ((cal1_ok (g := g_is_link) (getv_ok (i := 0) (env := env) (S := S) rfl)).trans lk))
  rcases hk with hk | ⟨c, hc, rfl⟩
  · obtain ⟨a, b, rfl, _⟩ := (ranges_ok _ hk).2
    have c1 := (cal2_ok (g := g_in_range) (f1 := getv 0) (f2 := getv 1) (env := env) (S := S) (getv_ok rfl) (getv_ok rfl)).trans (in_range_ok (os := os) S hv)
    exact body_rt (b := b_suits) rfl (seq_rt ((ifS_t c0).trans (ret_ok c1)))
  · refine body_rt (b := b_suits) rfl ((seq_nx ((ifS_f c0).trans rfl)).trans (ret_ok ?_))
    have n1 := (bink (g := isD) (d := .non) (getv_ok (i := 1) (env := env) (S := S) rfl)).trans (isD_non _ S)
    have ci := (cal1_ok (g := g_is_integer) (getv_ok (i := 0) (env := [some v]) (S := S) rfl)).trans (is_integer_ok S hv)
    have nm : ∀ {b : Bool}, andV (cal (cns (getv 0) (fun _ => pur [])) g_is_integer) (bin geD (getv 0) (fun _ => pur (.int 0))) [some v] S = .ok (.bl b) S → g_is_number [v] S = .ok (.bl b) S := fun h => body_rt (b := b_is_number) rfl (ret_ok h)
    cases v <;> first
      | (simp [gd] at hv; done)
      | (cases hf; done)
      | exact orV_t n1
      | (exact (orV_f n1).trans (andV_f ((cal1_ok (g := g_is_number) (getv_ok (i := 1) rfl)).trans (nm (andV_f ci)))))
      | skip
    rename_i i
    have ge : bin geD (getv 0) (fun _ => pur (.int 0)) [some (.int i)] S = .ok (.bl (decide (0 ≤ i))) S := (bink (g := geD) (getv_ok rfl)).trans rfl
    have nn := (cal1_ok (g := g_is_number) (getv_ok (i := 1) (env := env) (S := S) rfl)).trans (nm ((andV_t ci).trans ge))
    by_cases h0 : 0 ≤ i
    · rw [decide_eq_true h0] at nn
      refine (orV_f n1).trans ((andV_t nn).trans ?_)
      have g2 : get1 (getv 2) (getv 1) env S = .ok ((clsAt os i).map D.str |>.getD .non) S := by
        have a1 : getv 2 env S = .ok (.obj p) S := getv_ok rfl
        have a2 : getv 1 env S = .ok (.int i) S := getv_ok rfl
        have a3 : objK (.obj p) S = .ok (p, os.map ckv) S := by simp only [objK, hS]
        simp only [get1, bd, a1, a2, a3, keyOf, opt, pur, clsAt_val]
      refine (bin_ok (g := eqD) g2 (getv_ok (i := 0) rfl)).trans ?_
      show eqD _ (.str c) S = .ok (.bl (decide (clsAt os i = some c))) S
      cases e : clsAt os i with
      | none =>
        refine (eqS' (n := 0) (m := 0) (cls5_ok c hc).1 rfl (Nat.zero_le _)).trans ?_
        simp [isS]
      | some c' =>
        have hc' : c' ∈ cls5 := by
          unfold clsAt at e
          cases ef : os.find? (fun o => decide ((o.1 : Int) = i)) with
          | none => rw [ef] at e; cases e
          | some o =>
            rw [ef] at e
            cases e
            exact ho o (List.mem_of_find?_eq_some ef)
        refine (eqS' (n := 0) (m := 0) (cls5_ok c hc).1 (cls5_ok c' hc').1 (Nat.zero_le _)).trans ?_
        simp [isS, eq_comm]
    · rw [decide_eq_false h0] at nn
      refine (orV_f n1).trans ((andV_f nn).trans ?_)
      show _ = Rs.ok (D.bl (decide (clsAt os i = some c))) S
      rw [clsAt_neg (by omega)]
      simp
end
end K18

end
/-! ## K18e -/
section
namespace K18
variable [Fx.Tabl]
open PySem Fx
open L2 (atI ixN Key)
/-! ### comprehensions over mapped data -/
theorem compL_mapA {mk : List D → M D} {t : D → Fx.Env → Option Fx.Env} {c : Fx.Env → M Bool} {el : Fx.Env → M D} {env0 : Fx.Env} {S : Store} {α : Type} (g kd : α → D) (p : α → Bool) : ∀ (xs : List α) (acc : List D),
    (∀ x ∈ xs, ∃ env1, t (g x) env0 = some env1 ∧ c env1 S = .ok (p x) S ∧ (p x = true → el env1 S = .ok (kd x) S)) → acc.length + xs.length ≤ 300000 →
    compL mk t c el env0 (xs.map g) acc S = mk (acc ++ (xs.filter p).map kd) S
  | [], acc, _, _ => by simp [compL]
  | x :: xs, acc, h, hl => by
    obtain ⟨env1, h1, h2, h3⟩ := h x (by simp)
    have hr := fun d' hd' => h d' (List.mem_cons_of_mem _ hd')
    rw [List.map_cons]
    unfold compL
    simp only [h1, bdN, h2]
    cases q : p x with
    | false =>
      rw [if_neg (by simp), compL_mapA g kd p xs acc hr (by simp at hl; omega)]
      simp [List.filter_cons, q]
    | true =>
      have hl2 : acc.length < sizeLine := Nat.lt_of_lt_of_le (show acc.length < 300000 by simp at hl; omega) (by decide)
      simp only [if_pos, bdN, h3 q, if_pos hl2]
      rw [compL_mapA g kd p xs (acc ++ [kd x]) hr (by simp at hl ⊢; omega)]
      simp [List.filter_cons, q]
theorem cmp_mapS {vs : List Nat} {it : Fx.Env → M (List D)} {t : D → Fx.Env → Option Fx.Env} {c : Fx.Env → M Bool} {el : Fx.Env → M D} {env : Fx.Env} {S S1 : Store} {α : Type} (g kd : α → D) (p : α → Bool) (xs : List α) (hit : it env S = .ok (xs.map g) S1)
    (h : ∀ x ∈ xs, ∃ env1, t (g x) (wipeE env vs) = some env1 ∧ c env1 S1 = .ok (p x) S1 ∧ (p x = true → el env1 S1 = .ok (kd x) S1)) (hl : xs.length ≤ 300000) : cmp vs mkL it t c el env S = .ok (.lst ((xs.filter p).map kd)) S1 := by
  simp only [cmp, bd, hit]
  rw [compL_mapA g kd p xs [] h (by simpa using hl), List.nil_append, mkL_ok (sz _ ?_)]
  rw [List.length_map]
  exact Nat.le_trans (List.length_filter_le _ _) hl
theorem cmp_map {vs : List Nat} {it : Fx.Env → M (List D)} {t : D → Fx.Env → Option Fx.Env} {el : Fx.Env → M D} {env : Fx.Env} {S S1 : Store} {α : Type} (g kd : α → D) (xs : List α) (hit : it env S = .ok (xs.map g) S1)
    (h : ∀ x ∈ xs, ∃ env1, t (g x) (wipeE env vs) = some env1 ∧ el env1 S1 = .ok (kd x) S1) (hl : xs.length ≤ 300000) : cmp vs mkL it t (fun _ => pur true) el env S = .ok (.lst (xs.map kd)) S1 := by
  have := cmp_mapS (vs := vs) (it := it) (t := t) (c := fun _ => pur true) (el := el) (env := env) g kd (fun _ => true) xs hit (fun x hx => by
    obtain ⟨e1, h1, h2⟩ := h x hx
    exact ⟨e1, h1, rfl, fun _ => h2⟩) hl
  rw [List.filter_eq_self.mpr (fun _ _ => rfl)] at this
  exact this
/-! ### what the law says of one value -/
abbrev memD (o : Ob) : D := .tup [.int (o.1 : Nat), .str o.2.1]
theorem any_cls {os : List Ob} (hn : (os.map (·.1)).Nodup) {i : Int} {c : Str} : (os.any fun o => decide ((o.1 : Int) = i) && decide (o.2.1 = c)) = decide (clsAt os i = some c) := by
  induction os with
  | nil => simp [clsAt]
  | cons o os ih =>
    rw [List.map_cons, List.nodup_cons] at hn
    rw [List.any_cons, ih hn.2]
    unfold clsAt
    rw [List.find?_cons]
    by_cases h : (o.1 : Int) = i
    · simp only [h, decide_true, Bool.true_and]
      have : os.find? (fun o => decide ((o.1 : Int) = i)) = none := by
        rw [List.find?_eq_none]
        intro o' ho'
        have : o'.1 ≠ o.1 := fun e => hn.1 (e ▸ List.mem_map.mpr ⟨o', ho', rfl⟩)
        simp; omega
      rw [this]; simp
    · simp [h]
theorem eqv_mem (i j : Int) (x c : Str) : PyData.eqv (py (.tup [.int j, .str x])) (py (.tup [.int i, .str c])) = (decide (j = i) && decide (x = c)) := by
  simp [py, pys, PyData.eqv, PyData.eqvAll, Bool.beq_eq_decide_eq]
theorem ind_mem {n : Nat} {os : List Ob} {i : Int} {c : Str} (S : Store) (hi : gd n (.int i) = true) (hc : c ∈ cls5) (hn : (os.map (·.1)).Nodup) (ho : ∀ o ∈ os, o.2.1 ∈ cls5 ∧ o.1 ≤ 1000) : indD false (.tup [.int i, .str c]) (.lst (os.map memD)) S = .ok (.bl (decide (clsAt os i = some c))) S := by
  have g1 : gd n (.tup [.int i, .str c]) = true := by
    have := gd_mono (Nat.zero_le n) _ (cls5_ok c hc).1
    simp only [gd, gds, Bool.and_true, Bool.and_eq_true] at this hi ⊢
    exact ⟨hi, this⟩
  have g2 : gd 1000 (.lst (os.map memD)) = true := by
    rw [gd, gds_mem]
    intro d hd
    obtain ⟨o, ho', rfl⟩ := List.mem_map.mp hd
    obtain ⟨a, b⟩ := ho o ho'
    have := gd_mono (Nat.zero_le 1000) _ (cls5_ok _ a).1
    have h2 : gd 1000 (.int (o.1 : Nat)) = true := by simp [gd]; omega
    simp only [gd, gds, Bool.and_true, Bool.and_eq_true] at this h2 ⊢
    exact ⟨h2, this⟩
  have d1 : dep (.tup [.int i, .str c]) ≤ 64 := by show 1 ≤ 64; decide
  have d2 : dep (.lst (os.map memD)) ≤ 64 := Nat.le_trans (dep_lst (k := 1) fun d hd => by
    obtain ⟨o, _, rfl⟩ := List.mem_map.mp hd
    exact Nat.le_refl _) (by decide)
  have e2 : py (.lst (os.map memD)) = .list (os.map fun o => py (memD o)) := by
    rw [py]; congr 1
    induction os with
    | nil => rfl
    | cons o os ih =>
      rw [List.map_cons, List.map_cons, pys]
      rw [ih (by rw [List.map_cons, List.nodup_cons] at hn; exact hn.2) (fun o h => ho o (List.mem_cons_of_mem _ h)) (by
        rw [gd, gds_mem] at g2 ⊢
        exact fun d hd => g2 d (by rw [List.map_cons]; exact List.mem_cons_of_mem _ hd)) (by
        refine Nat.le_trans (dep_lst (k := 1) fun d hd => ?_) (by decide)
        obtain ⟨o, _, rfl⟩ := List.mem_map.mp hd
        exact Nat.le_refl _)]
  have s2 := shaped_gd g2 d2
  simp only [indD, bd, pyM_eq g1, pyM_eq g2, e2]
  rw [e2] at s2
  simp only [shaped_gd g1 d1, s2, and_self, if_true, pur, Bool.false_eq_true, if_false, List.any_map]
  rw [← any_cls hn]
  congr 3
  funext o
  exact eqv_mem i o.1 o.2.1 c
section
variable {sc : List Form} {lim : Nat} {os : List Ob}
theorem HouseOk.mem (h : HouseOk sc lim os) : ∀ o ∈ os, o.2.1 ∈ cls5 ∧ o.1 ≤ 1000 := fun o ho => ⟨h.s.cls _ (h.c o ho), by have := h.lt o ho; have := h.li; omega⟩
theorem law_suits_ok {n : Nat} {kind v : D} (S : Store) (h : HouseOk sc lim os) (hk : KindOk kind) (hv : gd n v = true) (hf : flatP v = true) : g_law_suits [houseD sc lim os, kind, v] S = .ok (.bl (suitsP os kind v)) S := by
  let env : Fx.Env := [some (houseD sc lim os), some kind, some v, none, none, none, none]
  have gk : gd 1000 kind = true := by
    rcases hk with hk | ⟨c, hc, rfl⟩
    · exact (ranges_ok _ hk).1.g
    · exact gd_mono (Nat.zero_le _) _ (cls5_ok c hc).1
  have c0 := tst_ok (isi_tup (i := 1) (env := env) (S := S) gk rfl)
  rcases hk with hk | ⟨c, hc, rfl⟩
  · obtain ⟨a, b, rfl, _⟩ := (ranges_ok _ hk).2
    refine body_rt (b := b_law_suits) rfl (seq_rt ((ifS_t c0).trans (ret_ok ?_)))
    have c := (cal1_ok (g := g_law_is_integer) (getv_ok (i := 2) (env := env) (S := S) rfl)).trans (law_is_integer_ok S hv)
    cases v <;> first
      | (simp [gd] at hv; done)
      | exact andV_f c
      | skip
    rename_i i
    exact (andV_t c).trans (chn_ok (f1 := bin ixD (getv 1) (fun _ => pur (.int 0))) (f2 := getv 2) (f3 := bin ixD (getv 1) (fun _ => pur (.int 1))) rfl (getv_ok rfl) rfl)
  · have it : itf (bin ixD (getv 0) (fun _ => pur (.int 2))) env S = .ok (os.map obD) S := rfl
    have k := cmp_map (vs := [4, 5, 6]) (t := toTup (toCons (toN 4) (toCons (toN 5) (toCons (toN 6) toNil)))) (el := dsp mkT (cns (getv 4) (cns (getv 5) (fun _ => pur [])))) obD memD os it (fun o ho => ⟨_, rfl, dsp2 (getv_ok rfl) (getv_ok rfl)⟩) (by have := h.len; omega)
    let env1 : Fx.Env := [some (houseD sc lim os), some (.str c), some v, some (.lst (os.map memD)), none, none, none]
    have s3 : Fx.set 3 (cmp [4, 5, 6] mkL (itf (bin ixD (getv 0) (fun _ => pur (.int 2)))) (toTup (toCons (toN 4) (toCons (toN 5) (toCons (toN 6) toNil)))) (fun _ => pur true) (dsp mkT (cns (getv 4) (cns (getv 5) (fun _ => pur []))))) env S = .ok (.nx env1) S := set_ok k
    refine body_rt (b := b_law_suits) rfl ((seq_nx ((ifS_f c0).trans rfl)).trans ((seq_nx s3).trans (ret_ok ?_)))
    have n1 := (bink (g := isD) (d := .non) (getv_ok (i := 2) (env := env1) (S := S) rfl)).trans (isD_non _ S)
    have ci := (cal1_ok (g := g_law_is_integer) (getv_ok (i := 2) (env := env1) (S := S) rfl)).trans (law_is_integer_ok S hv)
    cases v <;> first
      | (simp [gd] at hv; done)
      | (cases hf; done)
      | exact orV_t n1
      | exact (orV_f n1).trans (andV_f ci)
      | skip
    rename_i i
    refine (orV_f n1).trans ((andV_t ci).trans ?_)
    exact (bin_ok (g := indD false) (dsp2 (getv_ok (i := 2) rfl) (getv_ok (i := 1) rfl)) (getv_ok (i := 3) rfl)).trans (ind_mem S hv hc h.nd h.mem)
end
end K18

end
/-! ## K18f -/
section
namespace K18
variable [Fx.Tabl]
open PySem Fx
open L2 (atI ixN Key)
theorem seq_ex {g g' : Fx.Env → MS} {env env1 : Fx.Env} {S S' : Store} {e : Ex} (h : g env S = .ex e env1 S') : seqS g g' env S = .ex e env1 S' := by simp only [seqS, h]
theorem body_ex {n m : Nat} {b : Fx.Env → MS} {ds : List D} {S S' : Store} {env : Fx.Env} {e : Ex} (hm : ds.length = m) (h : b (ent n ds) S = .ex e env S') : bodyD n m b ds S = .ex e S' := by
  simp only [bodyD, if_pos hm, h]
theorem cal3_okS {f1 f2 f3 : Fx.Env → M D} {g : List D → M D} {env : Fx.Env} {S S1 : Store} {a b c : D} (h1 : f1 env S = .ok a S) (h2 : f2 env S = .ok b S) (h3 : f3 env S = .ok c S1) : cal (cns f1 (cns f2 (cns f3 (fun _ => pur [])))) g env S = g [a, b, c] S1 := by
  simp only [cal, cns, bd, h1, h2, h3, pur]
/-! ### how a call of the program ends -/
inductive Oc where
  | told (d : D) | step (w : List D) (x : Str) | obj (d : D)
def Oc.due : Oc → D
  | .told d => .tup [.str "told", d]
  | .step w x => .tup [.str "step", .tup w, .str x]
  | .obj d => .tup [.str "object", d]
def stepX (w : List D) (x : Str) : Ex := ⟨"InvalidStep", [("word", .str x), ("step", .tup w)]⟩
def objX (d : D) : Ex := ⟨"UnknownObject", [("number", d)]⟩
def Ends (m : M D) (S : Store) (o : Oc) : Prop := match o with
  | .told d => ∃ S', m S = .ok d S' ∧ After S S'
  | .step w x => ∃ S', m S = .ex (stepX w x) S' ∧ After S S'
  | .obj d => ∃ S', m S = .ex (objX d) S' ∧ After S S'
def hM (m : M D) : M D := heardM "told" tabs_LateError qf_law_outcome m
theorem Ends.heard {m : M D} {S : Store} {o : Oc} (h : Ends m S o) : ∃ S', hM m S = .ok o.due S' ∧ After S S' := by
  cases o with
  | told d =>
    obtain ⟨S', h, hA⟩ := h
    exact ⟨S', by simp only [hM, heardM, h]; rfl, hA⟩
  | step w x =>
    obtain ⟨S', h, hA⟩ := h
    have l : tabs_LateError.lookup (stepX w x).cls = some true := rfl
    have q : qf_law_outcome (stepX w x) S' = .ok (Oc.step w x).due S' := by simp [qf_law_outcome, stepX, Oc.due]
    exact ⟨S', by simp only [hM, heardM, h, l, if_true, q], hA⟩
  | obj d =>
    obtain ⟨S', h, hA⟩ := h
    have l : tabs_LateError.lookup (objX d).cls = some true := rfl
    have q : qf_law_outcome (objX d) S' = .ok (Oc.obj d).due S' := by simp [qf_law_outcome, objX, Oc.due]
    exact ⟨S', by simp only [hM, heardM, h, l, if_true, q], hA⟩
/-- a call whose answer is the answer of another -/
theorem Ends.body {n m : Nat} {e : Fx.Env → M D} {ds : List D} {S : Store} {o : Oc} (hm : ds.length = m) (h : Ends (e (ent n ds)) S o) : Ends (bodyD n m (Fx.ret e) ds) S o := by
  cases o with
  | told d =>
    obtain ⟨S', h, hA⟩ := h
    exact ⟨S', body_rt hm (ret_okS h), hA⟩
  | step w x =>
    obtain ⟨S', h, hA⟩ := h
    exact ⟨S', body_ex hm (env := ent n ds) (by simp only [Fx.ret, lft, h]), hA⟩
  | obj d =>
    obtain ⟨S', h, hA⟩ := h
    exact ⟨S', body_ex hm (env := ent n ds) (by simp only [Fx.ret, lft, h]), hA⟩
theorem Ends.congr {m m' : M D} {S : Store} {o : Oc} (e : m S = m' S) (h : Ends m' S o) : Ends m S o := by
  cases o with
  | told d => obtain ⟨S', h, hA⟩ := h; exact ⟨S', e.trans h, hA⟩
  | step w x => obtain ⟨S', h, hA⟩ := h; exact ⟨S', e.trans h, hA⟩
  | obj d => obtain ⟨S', h, hA⟩ := h; exact ⟨S', e.trans h, hA⟩
/-! ### a lot of values held against a form -/
structure Vs (vs : List D) : Prop where
  g : ∀ v ∈ vs, gd big60 v = true
  f : ∀ v ∈ vs, flatP v = true
  l : vs.length ≤ 5
def suitsL (os : List Ob) (f : List (Str × D)) (vs : List D) : Bool := decide (vs.length = f.length) && (f.zip vs).all fun p => suitsP os p.1.2 p.2
def KOk (f : List (Str × D)) : Prop := f.length ≤ 4 ∧ (∀ q ∈ f, KindOk q.2) ∧ ∀ q ∈ f, q.1 ∈ labs
theorem zip_maps : ∀ (f : List (Str × D)) (vs : List D), List.zipWith pairD (f.map row) vs = (f.zip vs).map fun p => pairD (row p.1) p.2
  | [], _ => by simp
  | _ :: _, [] => by simp
  | q :: f, v :: vs => by simp [zip_maps f vs]
theorem ne_len (a b : Nat) (S : Store) : neD (.int a) (.int b) S = .ok (.bl (!decide (a = b))) S := by
  rw [neD_int]
  congr 2
  by_cases h : a = b
  · subst h; simp
  · have : ((a : Int) == b) = false := by simp; omega
    rw [this, decide_eq_false h]
section
variable {sc : List Form} {lim : Nat} {os : List Ob}
theorem HouseOk.kok (h : HouseOk sc lim os) {c : Str} {f : List (Str × D)} (hf : formOf sc c = some f) : KOk f := by
  have hm := formOf_some hf
  have L := h.s.l _ hm
  refine ⟨L.len, fun q hq => ?_, fun q hq => L.lab hq⟩
  rcases L.k q hq with h1 | ⟨c', hc, e⟩
  · exact .inl h1
  · exact .inr ⟨c', h.s.cls c' hc, e⟩
theorem HouseOk.cg (h : HouseOk sc lim os) : ∀ f ∈ sc, gd 0 (.str f.1) = true := fun f hf => (cls5_ok _ (h.s.cls f.1 (List.mem_map.mpr ⟨f, hf, rfl⟩))).1
theorem KOk.lg {f : List (Str × D)} (h : KOk f) : ∀ q ∈ f, gd 0 (.str q.1) = true := fun q hq => (labs_ok _ (h.2.2 q hq)).1
theorem all_suit_ok {p : Nat} {f : List (Str × D)} {vs : List D} (S : Store) (hS : S[p]? = some (some (.dct (os.map ckv)))) (hk : KOk f) (hv : Vs vs) (ho : ∀ o ∈ os, o.2.1 ∈ cls5) : g_all_suit [.tup (f.map row), .tup vs, .obj p] S = .ok (.bl (suitsL os f vs)) S := by
  let env : Fx.Env := [some (.tup (f.map row)), some (.tup vs), some (.obj p), none, none, none]
  have l1 := (cal1_ok (g := lenD) (getv_ok (i := 1) (env := env) (S := S) rfl)).trans lenT
  have l0 := (cal1_ok (g := lenD) (getv_ok (i := 0) (env := env) (S := S) rfl)).trans lenT
  rw [List.length_map] at l0
  have c0 := tst_ok ((bin_ok (g := neD) l1 l0).trans (ne_len _ _ S))
  by_cases hl : vs.length = f.length
  · rw [decide_eq_true hl] at c0
    have it : itz (cns (getv 0) (cns (getv 1) (fun _ => pur []))) env S = .ok ((f.zip vs).map fun p => pairD (row p.1) p.2) S := by
      rw [← zip_maps]; rfl
    have zl : (f.zip vs).length ≤ 300000 := by
      rw [List.length_zip]; have := hk.1; omega
    have c := cmp_map (vs := [5, 3, 4]) (t := toTup (toCons (toTup (toCons (toN 3) (toCons (toN 4) toNil))) (toCons (toN 5) toNil))) (el := cal (cns (getv 4) (cns (getv 5) (cns (getv 2) (fun _ => pur [])))) g_suits) (env := env) (fun p : (Str × D) × D => pairD (row p.1) p.2) (fun p => .bl (suitsP os p.1.2 p.2)) (f.zip vs) it (fun q hq => by
      have hz := List.of_mem_zip (a := q.1) (b := q.2) (by simpa using hq)
      refine ⟨[some (.tup (f.map row)), some (.tup vs), some (.obj p), some (.str q.1.1), some q.1.2, some q.2], rfl, ?_⟩
      exact (cal3_ok (getv_ok rfl) (getv_ok rfl) (getv_ok rfl)).trans (suits_ok S hS (hk.2.1 _ hz.1) (hv.g _ hz.2) (hv.f _ hz.2) ho)) zl
    have a := (cal1_ok (g := allD) c).trans (allD_map (fun p : (Str × D) × D => suitsP os p.1.2 p.2) (f.zip vs) S)
    refine body_rt (b := b_all_suit) rfl ((seq_nx ((ifS_f c0).trans rfl)).trans (ret_ok ?_))
    refine a.trans ?_
    simp only [suitsL, hl, decide_true, Bool.true_and]
  · rw [decide_eq_false hl] at c0
    refine (body_rt (b := b_all_suit) rfl (seq_rt ((ifS_t c0).trans (ret_ok rfl)))).trans ?_
    simp only [suitsL, hl, decide_false, Bool.false_and]
/-! ### made -/
def madeO (sc : List Form) (lim : Nat) (os : List Ob) (cls : D) (vs : List D) : Oc := match cls with
  | .str c => match formOf sc c with
    | some f => if suitsL os f vs = true then .told (houseD sc (lim + 1) (os ++ [(lim, c, vs)])) else .step [.str "make", cls, .tup vs] "values"
    | none => .step [.str "make", cls, .tup vs] "class"
  | _ => .step [.str "make", cls, .tup vs] "class"
def Cl (d : D) : Prop := gd 1000 d = true ∧ dep d ≤ 60
theorem cat_obs (os : List Ob) (o : Ob) (t : Fx.Env → M (List D)) (env : Fx.Env) (S : Store) (hg : getv 4 env S = .ok (.tup (os.map obD)) S) (ht : t env S = .ok [obD o] S) (hl : os.length ≤ 20) : dsp mkT (stc (getv 4) t) env S = .ok (.tup ((os ++ [o]).map obD)) S := by
  have q : seqLT (.tup (os.map obD)) S = .ok (os.map obD) S := rfl
  rw [dsp]
  simp only [stc, bd, hg, q, ht, pur]
  rw [List.map_append, List.map_cons, List.map_nil]
  exact mkT_ok (sz _ (by rw [List.length_append, List.length_map]; simp; omega))
theorem made_by_ok {cls : D} {vs : List D} (S : Store) (h : HouseOk sc lim os) (hc : Cl cls) (hv : Vs vs) : Ends (g_made_by [houseD sc lim os, .tup [.str "make", cls, .tup vs]]) S (madeO sc lim os cls vs) := by
  let w : D := .tup [.str "make", cls, .tup vs]
  let env0 : Fx.Env := [some (houseD sc lim os), some w, some (.tup (sc.map frow)), some (.int (lim : Nat)), some (.tup (os.map obD)), some (.str "make"), some cls, some (.tup vs), none]
  have a0 : asg (getv 0) (toTup (toCons (toN 2) (toCons (toN 3) (toCons (toN 4) toNil)))) (ent 9 [houseD sc lim os, w]) S = .ok (.nx [some (houseD sc lim os), some w, some (.tup (sc.map frow)), some (.int (lim : Nat)), some (.tup (os.map obD)), none, none, none, none]) S := rfl
  have a1 : asg (getv 1) (toTup (toCons (toN 5) (toCons (toN 6) (toCons (toN 7) toNil)))) [some (houseD sc lim os), some w, some (.tup (sc.map frow)), some (.int (lim : Nat)), some (.tup (os.map obD)), none, none, none, none] S = .ok (.nx env0) S := rfl
  have f8 := (cal2_ok (g := g_form_of) (f1 := getv 2) (f2 := getv 6) (env := env0) (S := S) (getv_ok rfl) (getv_ok rfl)).trans (form_of_ok S h.cg hc.1 hc.2)
  have s8 := set_ok (i := 8) f8
  have pre : ∀ {x : RsS} {g : Fx.Env → MS}, seqS (ifS (tst (bin isD (getv 8) (fun _ => pur .non))) (rz2 "InvalidStep" "step" "word" (cns (getv 1) (cns (fun _ => pur (.str "class")) (fun _ => pur [])))) pass) g (env0.set 8 (some (oD (formD sc cls)))) S = x → seqS (asg (getv 0) (toTup (toCons (toN 2) (toCons (toN 3) (toCons (toN 4) toNil))))) (seqS (asg (getv 1) (toTup (toCons (toN 5) (toCons (toN 6) (toCons (toN 7) toNil))))) (seqS (Fx.set 8 (cal (cns (getv 2) (cns (getv 6) (fun _ => pur []))) g_form_of)) (seqS (ifS (tst (bin isD (getv 8) (fun _ => pur .non))) (rz2 "InvalidStep" "step" "word" (cns (getv 1) (cns (fun _ => pur (.str "class")) (fun _ => pur [])))) pass) g))) (ent 9 [houseD sc lim os, w]) S = x := fun hx => (seq_nx a0).trans ((seq_nx a1).trans ((seq_nx s8).trans hx))
  have c8 := tst_ok ((bink (g := isD) (d := .non) (getv_ok (i := 8) (env := env0.set 8 (some (oD (formD sc cls)))) (S := S) rfl)).trans (isD_non _ S))
  cases e : formD sc cls with
  | none =>
    rw [e] at c8
    have o : madeO sc lim os cls vs = .step [.str "make", cls, .tup vs] "class" := by
      unfold madeO
      cases cls <;> first
        | rfl
        | (rename_i c; have e' : formOf sc c = none := e; simp only [e'])
    rw [o]
    refine ⟨S, body_ex (b := b_made_by) (env := env0.set 8 (some (oD none))) rfl (pre (seq_ex ?_)), .refl S⟩
    rw [e]
    exact (ifS_t c8).trans rfl
  | some f =>
    rw [e] at c8
    have hcs : ∃ c, cls = .str c ∧ formOf sc c = some f := by
      cases cls <;> first
        | (cases e; done)
        | exact ⟨_, rfl, e⟩
    obtain ⟨c, rfl, hf⟩ := hcs
    have hk := h.kok hf
    let env1 : Fx.Env := env0.set 8 (some (.tup (f.map row)))
    let S1 : Store := S ++ [some (.dct (os.map ckv))]
    have hS1 : S1[S.length]? = some (some (.dct (os.map ckv))) := by simp [S1]
    have cl := (cal1_ok (g := g_classes_of) (getv_ok (i := 0) (env := env1) (S := S) rfl)).trans (classes_of_ok S h)
    have as := (cal3_okS (g := g_all_suit) (f1 := getv 8) (f2 := getv 7) (env := env1) (S := S) (getv_ok rfl) (getv_ok rfl) cl).trans (all_suit_ok S1 hS1 hk hv fun o ho => (h.mem o ho).1)
    have c9 := notB_ok (tst_ok as)
    have o : madeO sc lim os (.str c) vs = if suitsL os f vs = true then .told (houseD sc (lim + 1) (os ++ [(lim, c, vs)])) else .step [.str "make", .str c, .tup vs] "values" := by
      simp only [madeO, hf]
    rw [o]
    cases q : suitsL os f vs with
    | false =>
      rw [q] at c9
      rw [if_neg (by decide)]
      refine ⟨S1, body_ex (b := b_made_by) (env := env1) rfl (pre ?_), ⟨_, rfl⟩⟩
      rw [e]
      refine (seq_nx ((ifS_f c8).trans rfl)).trans (seq_ex ((ifS_t c9).trans rfl))
    | true =>
      rw [q] at c9
      rw [if_pos rfl]
      refine ⟨S1, body_rt (b := b_made_by) rfl (pre ?_), ⟨_, rfl⟩⟩
      rw [e]
      refine (seq_nx ((ifS_f c8).trans rfl)).trans ((seq_nx ((ifS_f c9).trans rfl)).trans (ret_ok ?_))
      have b3 : bin (addD mkL) (getv 3) (fun _ => pur (.int 1)) env1 S1 = .ok (.int ((lim + 1 : Nat) : Int)) S1 := (bink (g := addD mkL) (getv_ok rfl)).trans rfl
      have b4 : dsp mkT (cns (getv 3) (cns (getv 6) (cns (getv 7) (fun _ => pur [])))) env1 S1 = .ok (obD (lim, c, vs)) S1 := dsp3 (getv_ok rfl) (getv_ok rfl) (getv_ok rfl)
      have b5 : cns (dsp mkT (cns (getv 3) (cns (getv 6) (cns (getv 7) (fun _ => pur []))))) (fun _ => pur []) env1 S1 = .ok [obD (lim, c, vs)] S1 := by simp only [cns, bd, b4, pur]
      exact dsp3 (getv_ok rfl) b3 (cat_obs os (lim, c, vs) _ env1 S1 (getv_ok rfl) b5 h.len)
theorem made_ok {cls : D} {vs : List D} (S : Store) (h : HouseOk sc lim os) (hc : Cl cls) (hv : Vs vs) : Ends (starG 2 g_made ([houseD sc lim os, cls] ++ vs)) S (madeO sc lim os cls vs) := by
  have e1 : starG 2 g_made ([houseD sc lim os, cls] ++ vs) = g_made [houseD sc lim os, cls, .tup vs] := by
    unfold starG
    rw [if_pos ⟨by simp, sz _ (by have := hv.l; simp; omega)⟩]
    rfl
  rw [e1]
  refine Ends.body (n := 3) (m := 3) rfl ?_
  refine Ends.congr (m' := g_made_by [houseD sc lim os, .tup [.str "make", cls, .tup vs]]) ?_ (made_by_ok S h hc hv)
  exact cal2_ok (getv_ok rfl) (dsp3 rfl (getv_ok rfl) (getv_ok rfl))
end
end K18

end
/-! ## K18g -/
section
namespace K18
variable [Fx.Tabl]
open PySem Fx
open L2 (atI ixN Key)
/-! ### the law's call of make -/
theorem if_ret {p : Fx.Env → M Bool} {e : Fx.Env → M D} {g' : Fx.Env → MS} {env : Fx.Env} {S : Store} (h : p env S = .ok true S) : seqS (ifS p (Fx.ret e) pass) g' env S = Fx.ret e env S := by
  unfold seqS
  rw [ifS_t h]
  simp only [Fx.ret, lft]
  cases e env S <;> rfl
theorem if_no {p : Fx.Env → M Bool} {g g' : Fx.Env → MS} {env : Fx.Env} {S S' : Store} (h : p env S = .ok false S') : seqS (ifS p g pass) g' env S = g' env S' := seq_nx ((ifS_f h).trans rfl)
theorem Ends.bodyE {n m : Nat} {b : Fx.Env → MS} {e : Fx.Env → M D} {ds : List D} {S : Store} {o : Oc} (hm : ds.length = m) (hb : b (ent n ds) S = Fx.ret e (ent n ds) S) (h : Ends (e (ent n ds)) S o) : Ends (bodyD n m b ds) S o := by
  refine Ends.congr (m' := bodyD n m (Fx.ret e) ds) ?_ (Ends.body hm h)
  simp only [bodyD, hb]
theorem eq_nilT {ds : List D} {n : Nat} {S : Store} (h : gd n (.tup ds) = true) (hp : dep (.tup ds) ≤ 64) : eqD (.tup ds) (.tup []) S = .ok (.bl ds.isEmpty) S := by
  rw [eqD_eq (m := 0) h rfl hp (by decide)]
  cases ds <;> simp [eqP, py, pys, PyData.eqv, PyData.eqvAll]
theorem ne_nilL {ds : List D} {n : Nat} {S : Store} (h : gd n (.lst ds) = true) (hp : dep (.lst ds) ≤ 64) : neD (.lst ds) (.lst []) S = .ok (.bl (!ds.isEmpty)) S := by
  rw [neD_eq (m := 0) h rfl hp (by decide)]
  cases ds <;> simp [eqP, py, pys, PyData.eqv, PyData.eqvAll]
theorem flat_dep {d : D} (h : flatP d = true) : dep d = 0 := by cases d <;> first | rfl | cases h
theorem Vs.tup {vs : List D} (h : Vs vs) : gd big60 (.tup vs) = true ∧ dep (.tup vs) ≤ 1 := ⟨by rw [gd, gds_mem]; exact h.g, dep_tup fun d hd => by rw [flat_dep (h.f d hd)]; exact Nat.le_refl _⟩
theorem eq_lenK (a : Nat) (b : Nat) (S : Store) : eqD (.int a) (.int (b : Nat)) S = .ok (.bl (decide (a = b))) S := by
  rw [eqInt]
  congr 2
  by_cases h : a = b
  · subst h; simp
  · have : ((a : Int) == b) = false := by simp; omega
    rw [this, decide_eq_false h]
section
variable {sc : List Form} {lim : Nat} {os : List Ob}
theorem law_make_aux {H cls : D} {S : Store} {o : Oc} : ∀ (vs : List D), vs.length ≤ 5 → tst (bin eqD (getv 2) (dsp mkT (fun _ => pur []))) (ent 3 [H, cls, .tup vs]) S = .ok vs.isEmpty S →
    (∀ k : Nat, tst (bin eqD (cal (cns (getv 2) (fun _ => pur [])) lenD) (fun _ => pur (.int (k : Nat)))) (ent 3 [H, cls, .tup vs]) S = .ok (decide (vs.length = k)) S) → Ends (starG 2 g_made ([H, cls] ++ vs)) S o → Ends (g_law_make [H, cls, .tup vs]) S o
  | [], _, c0, cL, M => by
    refine Ends.bodyE (b := b_law_make) (e := (cal (cns (getv 0) (cns (getv 1) (fun _ => pur []))) (starG 2 g_made))) rfl (if_ret c0) (Ends.congr rfl M)
  | [a], _, c0, cL, M => by
    refine Ends.bodyE (b := b_law_make) (e := (cal (cns (getv 0) (cns (getv 1) (cns (bin ixD (getv 2) (fun _ => pur (.int 0))) (fun _ => pur [])))) (starG 2 g_made))) rfl ((if_no c0).trans (if_ret (cL 1))) (Ends.congr rfl M)
  | [a, b], _, c0, cL, M => by
    refine Ends.bodyE (b := b_law_make) (e := (cal (cns (getv 0) (cns (getv 1) (cns (bin ixD (getv 2) (fun _ => pur (.int 0))) (cns (bin ixD (getv 2) (fun _ => pur (.int 1))) (fun _ => pur []))))) (starG 2 g_made))) rfl ((if_no c0).trans ((if_no (cL 1)).trans (if_ret (cL 2)))) (Ends.congr rfl M)
  | [a, b, c], _, c0, cL, M => by
    refine Ends.bodyE (b := b_law_make) (e := (cal (cns (getv 0) (cns (getv 1) (cns (bin ixD (getv 2) (fun _ => pur (.int 0))) (cns (bin ixD (getv 2) (fun _ => pur (.int 1))) (cns (bin ixD (getv 2) (fun _ => pur (.int 2))) (fun _ => pur [])))))) (starG 2 g_made))) rfl ((if_no c0).trans ((if_no (cL 1)).trans ((if_no (cL 2)).trans (if_ret (cL 3))))) (Ends.congr rfl M)
  | [a, b, c, d], _, c0, cL, M => by
    refine Ends.bodyE (b := b_law_make) (e := (cal (cns (getv 0) (cns (getv 1) (cns (bin ixD (getv 2) (fun _ => pur (.int 0))) (cns (bin ixD (getv 2) (fun _ => pur (.int 1))) (cns (bin ixD (getv 2) (fun _ => pur (.int 2))) (cns (bin ixD (getv 2) (fun _ => pur (.int 3))) (fun _ => pur []))))))) (starG 2 g_made))) rfl ((if_no c0).trans ((if_no (cL 1)).trans ((if_no (cL 2)).trans ((if_no (cL 3)).trans (if_ret (cL 4)))))) (Ends.congr rfl M)
  | [a, b, c, d, e], _, c0, cL, M => by
    refine Ends.bodyE (b := b_law_make) (e := (cal (cns (getv 0) (cns (getv 1) (cns (bin ixD (getv 2) (fun _ => pur (.int 0))) (cns (bin ixD (getv 2) (fun _ => pur (.int 1))) (cns (bin ixD (getv 2) (fun _ => pur (.int 2))) (cns (bin ixD (getv 2) (fun _ => pur (.int 3))) (cns (bin ixD (getv 2) (fun _ => pur (.int 4))) (fun _ => pur [])))))))) (starG 2 g_made))) rfl ((if_no c0).trans ((if_no (cL 1)).trans ((if_no (cL 2)).trans ((if_no (cL 3)).trans (if_no (cL 4)))))) (Ends.congr rfl M)
  | _ :: _ :: _ :: _ :: _ :: _ :: _, hl, _, _, _ => by simp at hl
theorem law_make_ok {cls : D} {vs : List D} (S : Store) (h : HouseOk sc lim os) (hc : Cl cls) (hv : Vs vs) : Ends (g_law_make [houseD sc lim os, cls, .tup vs]) S (madeO sc lim os cls vs) := by
  have t := hv.tup
  refine law_make_aux vs hv.l ?_ (fun k => ?_) (made_ok (cls := cls) S h hc hv)
  · exact tst_ok ((bin_ok (g := eqD) (getv_ok (i := 2) rfl) (nilT _ S)).trans (eq_nilT t.1 (Nat.le_trans t.2 (by decide))))
  · exact tst_ok ((bink (g := eqD) ((cal1_ok (g := lenD) (getv_ok (i := 2) rfl)).trans lenT)).trans (eq_lenK _ k S))
/-! ### what the law wants of make -/
def shw (d : D) : Str := (py d).shown
def clsD : List D := [.str "a", .str "get", .str "lid", .str "zz", .str "", .non, .int 0]
theorem clsD_cl : ∀ d ∈ clsD, gd 1000 d = true ∧ dep d ≤ 60 := by decide +kernel
theorem clsD_ok : ∀ d ∈ clsD, gd big60 d = true ∧ wgt d ≤ 260000 ∧ dep d ≤ 64 := by decide +kernel
theorem cls3_rp : ∀ x ∈ cls3, gd big60 (.str x) = true ∧ wgt (.str x) ≤ 260000 ∧ dep (.str x) ≤ 64 := by decide +kernel
theorem shown_cls : ∀ d ∈ clsD, ∀ x ∈ cls3, decide (shw d = shw (.str x)) = isS x d := by decide +kernel
theorem shown_mem {d : D} (hd : d ∈ clsD) : ∀ {sc : List Form}, (∀ f ∈ sc, f.1 ∈ cls3) → decide (shw d ∈ sc.map fun f => shw (.str f.1)) = (formD sc d).isSome
  | [], _ => by
    have : formD [] d = none := by cases d <;> rfl
    rw [this]; simp
  | f :: sc, h => by
    have ih := shown_mem hd (sc := sc) fun g hg => h g (List.mem_cons_of_mem _ hg)
    have t := shown_cls d hd f.1 (h f (by simp))
    rw [formD_cons, List.map_cons]
    cases hq : isS f.1 d with
    | true =>
      rw [hq] at t
      rw [if_pos rfl]
      simp [of_decide_eq_true t]
    | false =>
      rw [hq] at t
      rw [if_neg (by decide), ← ih]
      simp [of_decide_eq_false t]
theorem HouseOk.c3 (h : HouseOk sc lim os) : ∀ f ∈ sc, f.1 ∈ cls3 := fun f hf => h.s.n.subset (List.mem_map.mpr ⟨f, hf, rfl⟩)
theorem ixTn {xs : List D} {k : Nat} {d : D} {S : Store} (h : xs[k]? = some d) : ixD (.tup xs) (.int (k : Nat)) S = .ok d S := ixT ((atI_nat (List.getElem?_eq_some_iff.mp h).1).trans h)
theorem rng_nat (n : Nat) : rng 0 (n : Int) = (List.range n).map fun (k : Nat) => D.int k := by simp [rng]
def sAt (os : List Ob) (f : List (Str × D)) (vs : List D) (j : Nat) : Bool := match f[j]?, vs[j]? with
  | some q, some v => suitsP os q.2 v
  | _, _ => true
theorem suitsL_eq (os : List Ob) (f : List (Str × D)) (vs : List D) (hl : vs.length = f.length) : suitsL os f vs = ((List.range (min f.length vs.length)).filter fun j => !sAt os f vs j).isEmpty := by
  rw [suitsL, decide_eq_true hl, Bool.true_and, Bool.eq_iff_iff, List.all_eq_true, List.isEmpty_iff, List.filter_eq_nil_iff]
  constructor
  · intro h j hj
    have hj : j < f.length ∧ j < vs.length := by rw [List.mem_range] at hj; omega
    have := h (f[j], vs[j]) (List.mem_iff_getElem.mpr ⟨j, by rw [List.length_zip]; omega, by simp⟩)
    simp only [sAt, List.getElem?_eq_getElem hj.1, List.getElem?_eq_getElem hj.2]
    simp only at this
    rw [this]; decide
  · intro h p hp
    obtain ⟨j, hj, rfl⟩ := List.mem_iff_getElem.mp hp
    have hj' : j < f.length ∧ j < vs.length := by rw [List.length_zip] at hj; omega
    have := h j (by rw [List.mem_range]; omega)
    simp only [sAt, List.getElem?_eq_getElem hj'.1, List.getElem?_eq_getElem hj'.2] at this
    simpa using this
theorem names_rp (h : HouseOk sc lim os) {env : Fx.Env} (S : Store) (it : itf (bin ixD (getv 0) (fun _ => pur (.int 0))) env S = .ok (sc.map frow) S)
    (ht : ∀ f ∈ sc, ∃ env1, toTup (toCons (toN 3) (toCons (toN 4) toNil)) (frow f) (wipeE env [3, 4]) = some env1 ∧ env1[3]? = some (some (.str f.1))) :
    cmp [3, 4] mkL (itf (bin ixD (getv 0) (fun _ => pur (.int 0)))) (toTup (toCons (toN 3) (toCons (toN 4) toNil))) (fun _ => pur true) (cal (cns (getv 3) (fun _ => pur [])) reprD) env S = .ok (.lst ((sc.map fun f => shw (.str f.1)).map .str)) S := by
  have hl : sc.length ≤ 3 := by have := h.s.n.length_le; rw [List.length_map] at this; exact this
  refine (cmp_map frow (fun f : Form => D.str (shw (.str f.1))) sc it (fun f hf => ?_) (by omega)).trans (by rw [List.map_map]; rfl)
  obtain ⟨env1, e1, e2⟩ := ht f hf
  obtain ⟨a, b, c⟩ := cls3_rp f.1 (h.c3 f hf)
  exact ⟨env1, e1, (cal1_ok (g := reprD) (getv_ok e2)).trans (repr_ok a b c)⟩
theorem made_due_ok {cls : D} {vs : List D} (S : Store) (h : HouseOk sc lim os) (hc : cls ∈ clsD) (hv : Vs vs) : ∃ S', g_law_made_due [houseD sc lim os, cls, .tup vs] S = .ok (madeO sc lim os cls vs).due S' ∧ After S S' := by
  let env0 : Fx.Env := [some (houseD sc lim os), some cls, some (.tup vs), none, none, none, none]
  obtain ⟨ga, gb, gc⟩ := clsD_ok cls hc
  have a1 := (cal1_ok (g := reprD) (getv_ok (i := 1) (env := env0) (S := S) rfl)).trans (repr_ok ga gb gc)
  have a2 := names_rp h (env := env0) S rfl (fun f hf => ⟨_, rfl, rfl⟩)
  have t0 := tst_ok ((bin_ok (g := inD true) a1 a2).trans (notin_names _ _ S))
  rw [show decide ((py cls).shown ∈ sc.map fun f => shw (.str f.1)) = (formD sc cls).isSome from shown_mem hc h.c3] at t0
  cases e : formD sc cls with
  | none =>
    rw [e] at t0
    have o : madeO sc lim os cls vs = .step [.str "make", cls, .tup vs] "class" := by
      unfold madeO
      cases cls <;> first
        | rfl
        | (rename_i c; have e' : formOf sc c = none := e; simp only [e'])
    rw [o]
    refine ⟨S, body_rt (b := b_law_made_due) rfl (seq_rt ((ifS_t t0).trans (ret_ok ?_))), .refl S⟩
    exact dsp3 rfl (dsp3 rfl (getv_ok rfl) (getv_ok rfl)) rfl
  | some f =>
    rw [e] at t0
    have hcs : ∃ c, cls = .str c ∧ formOf sc c = some f := by
      cases cls <;> first
        | (cases e; done)
        | exact ⟨_, rfl, e⟩
    obtain ⟨c, rfl, hf⟩ := hcs
    have hk := h.kok hf
    let S1 : Store := S ++ [some (.dct (fkvs sc))]
    have g4 := dget_sc (f1 := bin ixD (getv 0) (fun _ => pur (.int 0))) (f2 := getv 1) (env := env0) (S := S) h.s.nd rfl (fun T => getv_ok rfl) hf
    let env1 : Fx.Env := [some (houseD sc lim os), some (.str c), some (.tup vs), none, some (.tup (f.map row)), none, none]
    have s4 : Fx.set 4 (bin dgetD (cal (cns (bin ixD (getv 0) (fun _ => pur (.int 0))) (fun _ => pur [])) dictD) (getv 1)) env0 S = .ok (.nx env1) S1 := set_ok g4
    have l4 := (cal1_ok (g := lenD) (getv_ok (i := 4) (env := env1) (S := S1) rfl)).trans lenT
    rw [List.length_map] at l4
    have l2 := (cal1_ok (g := lenD) (getv_ok (i := 2) (env := env1) (S := S1) rfl)).trans lenT
    have mn : cal (cns (cal (cns (getv 4) (fun _ => pur [])) lenD) (cns (cal (cns (getv 2) (fun _ => pur [])) lenD) (fun _ => pur []))) minD env1 S1 = .ok (.int (min f.length vs.length : Nat)) S1 := by
      refine (cal2_ok l4 l2).trans ?_
      have : (if (vs.length : Int) < f.length then (vs.length : Int) else f.length) = (min f.length vs.length : Nat) := by split <;> omega
      simp only [minD, this, pur]
    have it := itr1_len mn (by have := hk.1; show _ ≤ 1048576; omega)
    rw [rng_nat] at it
    let n := min f.length vs.length
    have cm := cmp_mapS (vs := [6]) (t := toN 6) (c := notB (tst (cal (cns (getv 0) (cns (bin ixD (bin ixD (getv 4) (getv 6)) (fun _ => pur (.int 1))) (cns (bin ixD (getv 2) (getv 6)) (fun _ => pur [])))) g_law_suits))) (el := getv 6) (env := env1) (fun k : Nat => D.int k) (fun k : Nat => D.int k) (fun j => !sAt os f vs j) (List.range n) it (fun j hj => by
      have hj : j < f.length ∧ j < vs.length := by rw [List.mem_range] at hj; omega
      let envj : Fx.Env := [some (houseD sc lim os), some (.str c), some (.tup vs), none, some (.tup (f.map row)), none, some (.int j)]
      refine ⟨envj, rfl, ?_, fun _ => getv_ok rfl⟩
      have r1 : (f.map row)[j]? = some (row f[j]) := by rw [List.getElem?_map, List.getElem?_eq_getElem hj.1]; rfl
      have k1 : bin ixD (bin ixD (getv 4) (getv 6)) (fun _ => pur (.int 1)) envj S1 = .ok f[j].2 S1 := (bink (g := ixD) ((bin_ok (g := ixD) (getv_ok rfl) (getv_ok rfl)).trans (ixTn r1))).trans (ix21 _ _ S1)
      have k2 : bin ixD (getv 2) (getv 6) envj S1 = .ok vs[j] S1 := (bin_ok (g := ixD) (getv_ok rfl) (getv_ok rfl)).trans (ixTn (List.getElem?_eq_getElem hj.2))
      have hm : f[j] ∈ f := List.getElem_mem hj.1
      have hm2 : vs[j] ∈ vs := List.getElem_mem hj.2
      have := notB_ok (tst_ok ((cal3_ok (g := g_law_suits) (getv_ok (i := 0) (env := envj) (S := S1) rfl) k1 k2).trans (law_suits_ok S1 h (hk.2.1 _ hm) (hv.g _ hm2) (hv.f _ hm2))))
      rw [this]
      simp only [sAt, List.getElem?_eq_getElem hj.1, List.getElem?_eq_getElem hj.2]) (by rw [List.length_range]; have := hk.1; show n ≤ _; omega)
    let bad : List Nat := (List.range n).filter fun j => !sAt os f vs j
    let env2 : Fx.Env := [some (houseD sc lim os), some (.str c), some (.tup vs), none, some (.tup (f.map row)), some (.lst (bad.map fun k : Nat => D.int k)), none]
    have s5 := set_ok (i := 5) cm
    have l4' := (cal1_ok (g := lenD) (getv_ok (i := 4) (env := env2) (S := S1) rfl)).trans lenT
    rw [List.length_map] at l4'
    have l2' := (cal1_ok (g := lenD) (getv_ok (i := 2) (env := env2) (S := S1) rfl)).trans lenT
    have q1 := tst_ok ((bin_ok (g := neD) l4' l2').trans (ne_len _ _ S1))
    have gb : gd 1000 (.lst (bad.map fun k : Nat => D.int k)) = true := by
      rw [gd, gds_mem]
      intro d hd
      obtain ⟨k, hk2, rfl⟩ := List.mem_map.mp hd
      have : k < n := List.mem_range.mp (List.mem_filter.mp hk2).1
      have := hk.1
      simp [gd]; omega
    have q2 := tst_ok ((bin_ok (g := neD) (getv_ok (i := 5) (env := env2) (S := S1) rfl) (nilL env2 S1)).trans (ne_nilL gb (Nat.le_trans (dep_lst (k := 0) fun d hd => by
      obtain ⟨k, _, rfl⟩ := List.mem_map.mp hd
      exact Nat.le_refl _) (by decide))))
    have e0 : (bad.map fun k : Nat => D.int k).isEmpty = bad.isEmpty := isEmpty_map' _ _
    rw [e0] at q2
    have o : madeO sc lim os (.str c) vs = if suitsL os f vs = true then .told (houseD sc (lim + 1) (os ++ [(lim, c, vs)])) else .step [.str "make", .str c, .tup vs] "values" := by
      simp only [madeO, hf]
    have pre : ∀ {x : RsS} {g : Fx.Env → MS}, g env2 S1 = x → seqS (ifS (tst (bin (inD true) (cal (cns (getv 1) (fun _ => pur [])) reprD) (cmp [3, 4] mkL (itf (bin ixD (getv 0) (fun _ => pur (.int 0)))) (toTup (toCons (toN 3) (toCons (toN 4) toNil))) (fun _ => pur true) (cal (cns (getv 3) (fun _ => pur [])) reprD)))) (Fx.ret (dsp mkT (cns (fun _ => pur (.str "step")) (cns (dsp mkT (cns (fun _ => pur (.str "make")) (cns (getv 1) (cns (getv 2) (fun _ => pur []))))) (cns (fun _ => pur (.str "class")) (fun _ => pur [])))))) pass) (seqS (Fx.set 4 (bin dgetD (cal (cns (bin ixD (getv 0) (fun _ => pur (.int 0))) (fun _ => pur [])) dictD) (getv 1))) (seqS (Fx.set 5 (cmp [6] mkL (itr1 (cns (cal (cns (cal (cns (getv 4) (fun _ => pur [])) lenD) (cns (cal (cns (getv 2) (fun _ => pur [])) lenD) (fun _ => pur []))) minD) (fun _ => pur []))) (toN 6) (notB (tst (cal (cns (getv 0) (cns (bin ixD (bin ixD (getv 4) (getv 6)) (fun _ => pur (.int 1))) (cns (bin ixD (getv 2) (getv 6)) (fun _ => pur [])))) g_law_suits))) (getv 6))) g)) env0 S = x := fun hx => (if_no t0).trans ((seq_nx s4).trans ((seq_nx s5).trans hx))
    have bd5 : ∀ {T : Store}, Fx.ret (dsp mkT (cns (fun _ => pur (.str "step")) (cns (dsp mkT (cns (fun _ => pur (.str "make")) (cns (getv 1) (cns (getv 2) (fun _ => pur []))))) (cns (fun _ => pur (.str "values")) (fun _ => pur []))))) env2 T = .ok (.rt (Oc.step [.str "make", .str c, .tup vs] "values").due) T := fun {T} => ret_ok (dsp3 rfl (dsp3 rfl (getv_ok rfl) (getv_ok rfl)) rfl)
    rw [o]
    by_cases hl : vs.length = f.length
    · rw [decide_eq_true hl.symm] at q1
      have sl := suitsL_eq os f vs hl
      have sl : suitsL os f vs = bad.isEmpty := sl
      rw [sl]
      cases hb : bad.isEmpty with
      | true =>
        rw [hb] at q2
        rw [if_pos rfl]
        refine ⟨S1, body_rt (b := b_law_made_due) rfl (pre ((if_no ((or_f q1).trans q2)).trans (ret_ok ?_))), ⟨_, rfl⟩⟩
        have b1 : bin (addD mkL) (bin ixD (getv 0) (fun _ => pur (.int 1))) (fun _ => pur (.int 1)) env2 S1 = .ok (.int ((lim + 1 : Nat) : Int)) S1 := rfl
        have b2 : dsp mkT (cns (bin ixD (getv 0) (fun _ => pur (.int 1))) (cns (getv 1) (cns (getv 2) (fun _ => pur [])))) env2 S1 = .ok (obD (lim, c, vs)) S1 := dsp3 rfl (getv_ok rfl) (getv_ok rfl)
        have b3 : dsp mkT (cns (dsp mkT (cns (bin ixD (getv 0) (fun _ => pur (.int 1))) (cns (getv 1) (cns (getv 2) (fun _ => pur []))))) (fun _ => pur [])) env2 S1 = .ok (.tup [obD (lim, c, vs)]) S1 := by
          rw [dsp]
          simp only [cns, bd, b2, pur]
          exact mkT_ok (sz 1 (by decide))
        have b4 : bin (addD mkL) (bin ixD (getv 0) (fun _ => pur (.int 2))) (dsp mkT (cns (dsp mkT (cns (bin ixD (getv 0) (fun _ => pur (.int 1))) (cns (getv 1) (cns (getv 2) (fun _ => pur []))))) (fun _ => pur []))) env2 S1 = .ok (.tup ((os ++ [(lim, c, vs)]).map obD)) S1 := by
          refine (bin_ok (a := .tup (os.map obD)) rfl b3).trans ?_
          simp only [addD]
          rw [if_pos (sz _ (by rw [List.length_map]; have := h.len; simp; omega)), List.map_append]; rfl
        exact dsp2 rfl (dsp3 rfl b1 b4)
      | false =>
        rw [hb] at q2
        rw [if_neg (by decide)]
        exact ⟨S1, body_rt (b := b_law_made_due) rfl (pre (seq_rt ((ifS_t ((or_f q1).trans q2)).trans bd5))), ⟨_, rfl⟩⟩
    · rw [decide_eq_false fun z => hl z.symm] at q1
      have sl : suitsL os f vs = false := by unfold suitsL; rw [decide_eq_false hl]; rfl
      rw [sl, if_neg (by decide)]
      exact ⟨S1, body_rt (b := b_law_made_due) rfl (pre (seq_rt ((ifS_t (or_t q1)).trans bd5))), ⟨_, rfl⟩⟩
end
end K18

end
/-! ## K18h -/
section
namespace K18
variable [Fx.Tabl]
open PySem Fx
open L2 (atI ixN Key)
/-! ### write, on the program's side -/
theorem body_nx {n m : Nat} {b : Fx.Env → MS} {ds : List D} {S S' : Store} {env : Fx.Env} (hm : ds.length = m) (h : b (ent n ds) S = .ok (.nx env) S') : bodyD n m b ds S = .ok .non S' := by
  simp only [bodyD, if_pos hm, h]
def memO (os : List Ob) : D → Option Str
  | .int i => clsAt os i
  | _ => none
def putAt (k : Nat) (v : D) (vs : List D) : List D := vs.take k ++ [v] ++ vs.drop (k + 1)
abbrev wr1 (i : Int) (k : Nat) (v : D) (o : Ob) : Ob := if (o.1 : Int) = i then (o.1, o.2.1, putAt k v o.2.2) else o
def wrote (os : List Ob) (i : Int) (k : Nat) (v : D) : List Ob := os.map (wr1 i k v)
/-- what write says -/
inductive WV (sc : List Form) (lim : Nat) (os : List Ob) (n label v : D) : Oc → Prop
  | obj : memO os n = none → WV sc lim os n label v (.obj n)
  | field {i : Int} {c : Str} {f : List (Str × D)} : n = .int i → clsAt os i = some c → formOf sc c = some f → placeF f 0 label = none → WV sc lim os n label v (.step [.str "write", n, label, v] "field")
  | value {i : Int} {c : Str} {f : List (Str × D)} {k : Nat} {q : Str × D} : n = .int i → clsAt os i = some c → formOf sc c = some f → placeF f 0 label = some k → f[k]? = some q → suitsP os q.2 v = false → WV sc lim os n label v (.step [.str "write", n, label, v] "value")
  | told {i : Int} {c : Str} {f : List (Str × D)} {k : Nat} {q : Str × D} : n = .int i → clsAt os i = some c → formOf sc c = some f → placeF f 0 label = some k → f[k]? = some q → suitsP os q.2 v = true → WV sc lim os n label v (.told (houseD sc lim (wrote os i k v)))
section
variable {sc : List Form} {lim : Nat} {os : List Ob}
theorem clsAt_some {i : Int} {c : Str} (h : clsAt os i = some c) : ∃ o ∈ os, (o.1 : Int) = i ∧ o.2.1 = c := by
  unfold clsAt at h
  cases e : os.find? (fun o => decide ((o.1 : Int) = i)) with
  | none => rw [e] at h; cases h
  | some o =>
    rw [e] at h
    cases h
    exact ⟨o, List.mem_of_find?_eq_some e, by have := List.find?_some e; simpa using this, rfl⟩
theorem clsAt_mem (h : HouseOk sc lim os) {o : Ob} (ho : o ∈ os) : clsAt os o.1 = some o.2.1 := by
  have a := any_cls (i := (o.1 : Int)) (c := o.2.1) h.nd
  have : (os.any fun o' => decide ((o'.1 : Int) = o.1) && decide (o'.2.1 = o.2.1)) = true := List.any_eq_true.mpr ⟨o, ho, by simp⟩
  rw [this] at a
  exact of_decide_eq_true a.symm
theorem clsAt_form (h : HouseOk sc lim os) {i : Int} {c : Str} (hc : clsAt os i = some c) : ∃ f, formOf sc c = some f := by
  obtain ⟨o, ho, _, rfl⟩ := clsAt_some hc
  exact Option.isSome_iff_exists.mp (formOf_isSome (h.c o ho))
theorem wv (h : HouseOk sc lim os) (n label v : D) : ∃ o, WV sc lim os n label v o := by
  cases e : memO os n with
  | none => exact ⟨_, .obj e⟩
  | some c =>
    obtain ⟨i, rfl⟩ : ∃ i, n = .int i := by
      cases n <;> first
        | exact ⟨_, rfl⟩
        | cases e
    obtain ⟨f, hf⟩ := clsAt_form h e
    cases ep : placeF f 0 label with
    | none => exact ⟨_, .field rfl e hf ep⟩
    | some k =>
      obtain ⟨_, q, hq, _⟩ := placeF_get ep
      cases es : suitsP os q.2 v with
      | true => exact ⟨_, .told rfl e hf ep hq es⟩
      | false => exact ⟨_, .value rfl e hf ep hq es⟩
theorem ck_good {i : Int} {c : Str} (S : Store) (h : HouseOk sc lim os) (hi : clsAt os i = some c) : g_check_number [houseD sc lim os, .int i] S = .ok .non (S ++ [some (.dct (os.map ckv))]) := by
  let env : Fx.Env := [some (houseD sc lim os), some (.int i)]
  let S1 : Store := S ++ [some (.dct (os.map ckv))]
  have hS1 : S1[S.length]? = some (some (.dct (os.map ckv))) := by simp [S1]
  have c1 := notB_ok (tst_ok ((cal1_ok (g := g_is_integer) (getv_ok (i := 1) (env := env) (S := S) rfl)).trans (is_integer_ok (n := i.natAbs) S (by simp [gd]))))
  have c2 := (cal1_ok (g := g_classes_of) (getv_ok (i := 0) (env := env) (S := S) rfl)).trans (classes_of_ok S h)
  have c3 := bin_okS (g := dinD true) (getv_ok (i := 1) (env := env) (S := S) rfl) c2
  have c4 : dinD true (.int i) (.obj S.length) S1 = .ok (.bl false) S1 := by
    simp only [dinD, objK, bd, hS1, keyOf, opt, pur, clsAt_val, hi]; rfl
  exact body_nx (b := b_check_number) rfl ((ifS_f ((or_f c1).trans (tst_ok (c3.trans c4)))).trans rfl)
theorem ck_bad {n : D} {m : Nat} (S : Store) (h : HouseOk sc lim os) (hg : gd m n = true) (hn : memO os n = none) : ∃ S', g_check_number [houseD sc lim os, n] S = .ex (objX n) S' ∧ After S S' := by
  let env : Fx.Env := [some (houseD sc lim os), some n]
  let S1 : Store := S ++ [some (.dct (os.map ckv))]
  have hS1 : S1[S.length]? = some (some (.dct (os.map ckv))) := by simp [S1]
  have c1 := notB_ok (tst_ok ((cal1_ok (g := g_is_integer) (getv_ok (i := 1) (env := env) (S := S) rfl)).trans (is_integer_ok S hg)))
  cases hi : intP' n with
  | false =>
    rw [hi] at c1
    exact ⟨S, body_ex (b := b_check_number) (env := env) rfl ((ifS_t (or_t c1)).trans rfl), .refl S⟩
  | true =>
    rw [hi] at c1
    obtain ⟨i, rfl⟩ : ∃ i, n = .int i := by
      cases n <;> first
        | exact ⟨_, rfl⟩
        | cases hi
    have hn : clsAt os i = none := hn
    have c2 := (cal1_ok (g := g_classes_of) (getv_ok (i := 0) (env := env) (S := S) rfl)).trans (classes_of_ok S h)
    have c3 := bin_okS (g := dinD true) (getv_ok (i := 1) (env := env) (S := S) rfl) c2
    have c4 : dinD true (.int i) (.obj S.length) S1 = .ok (.bl true) S1 := by
      simp only [dinD, objK, bd, hS1, keyOf, opt, pur, clsAt_val, hn]; rfl
    exact ⟨S1, body_ex (b := b_check_number) (env := env) rfl ((ifS_t ((or_f c1).trans (tst_ok (c3.trans c4)))).trans rfl), ⟨_, rfl⟩⟩
theorem putAt_ok {f : Fx.Env → M D} {j w : Nat} {env : Fx.Env} {S : Store} {vs : List D} {k : Nat} {v : D} (hf : f env S = .ok (.tup vs) S) (hj : getv j env S = .ok (.int (k : Nat)) S) (hw : getv w env S = .ok v S) (hk : k < vs.length) (hl : vs.length ≤ 1000) :
    bin (addD mkL) (bin (addD mkL) (slc f (fun _ => pur none) (fun env => bd ((getv j) env) intOf)) (dsp mkT (cns (getv w) (fun _ => pur [])))) (slc f (fun env => bd ((bin (addD mkL) (getv j) (fun _ => pur (.int 1))) env) intOf) (fun _ => pur none)) env S = .ok (.tup (putAt k v vs)) S := by
  have z : ∀ n, n ≤ 3000 → n ≤ sizeLine := fun n hn => sz n (by omega)
  have s1 : slc f (fun _ => pur none) (fun env => bd ((getv j) env) intOf) env S = .ok (.tup (vs.take k)) S := by
    simp only [slc, bd, hf, hj, pur, intOf, slD]
    rw [if_pos (z _ (by omega)), cut_take (by omega)]; rfl
  have a1 : bin (addD mkL) (getv j) (fun _ => pur (.int 1)) env S = .ok (.int ((k + 1 : Nat) : Int)) S := (bink (g := addD mkL) hj).trans rfl
  have s2 : slc f (fun env => bd ((bin (addD mkL) (getv j) (fun _ => pur (.int 1))) env) intOf) (fun _ => pur none) env S = .ok (.tup (vs.drop (k + 1))) S := by
    simp only [slc, bd, hf, a1, pur, intOf, slD]
    rw [if_pos (z _ (by omega)), cut_drop (by omega)]; rfl
  have d1 : dsp mkT (cns (getv w) (fun _ => pur [])) env S = .ok (.tup [v]) S := by
    rw [dsp]
    simp only [cns, bd, hw, pur]
    exact mkT_ok (sz 1 (by decide))
  have b1 : bin (addD mkL) (slc f (fun _ => pur none) (fun env => bd ((getv j) env) intOf)) (dsp mkT (cns (getv w) (fun _ => pur []))) env S = .ok (.tup (vs.take k ++ [v])) S := by
    refine (bin_ok s1 d1).trans ?_
    simp only [addD]
    rw [if_pos (z _ (by rw [List.length_take]; simp; omega))]; rfl
  refine (bin_ok b1 s2).trans ?_
  simp only [addD]
  rw [if_pos (z _ (by rw [List.length_append, List.length_take, List.length_drop]; simp; omega))]; rfl
theorem with_value_ok {o : Ob} {k : Nat} {v : D} (S : Store) (hk : k < o.2.2.length) (hl : o.2.2.length ≤ 1000) : g_with_value [obD o, .int (k : Nat), v] S = .ok (obD (o.1, o.2.1, putAt k v o.2.2)) S := by
  let env : Fx.Env := [some (obD o), some (.int (k : Nat)), some v, some (.int (o.1 : Nat)), some (.str o.2.1), some (.tup o.2.2)]
  have a : asg (getv 0) (toTup (toCons (toN 3) (toCons (toN 4) (toCons (toN 5) toNil)))) (ent 6 [obD o, .int (k : Nat), v]) S = .ok (.nx env) S := rfl
  refine body_rt (b := b_with_value) rfl ((seq_nx a).trans (ret_ok (dsp3 (getv_ok rfl) (getv_ok rfl) ?_)))
  exact putAt_ok (env := env) (getv_ok rfl) (getv_ok rfl) (getv_ok rfl) hk hl
theorem HouseOk.vl (h : HouseOk sc lim os) {o : Ob} (ho : o ∈ os) {f : List (Str × D)} (hf : formOf sc o.2.1 = some f) : o.2.2.length = f.length ∧ o.2.2.length ≤ 4 := by
  have := h.v o ho f hf
  have := (h.kok hf).1
  omega
theorem written_by_ok {n label v : D} {o : Oc} {m1 m2 m3 : Nat} (S : Store) (h : HouseOk sc lim os) (hn : gd m1 n = true) (hl : gd m2 label = true ∧ dep label ≤ 60) (hv : gd m3 v = true ∧ flatP v = true) (w : WV sc lim os n label v o) :
    Ends (g_written_by [houseD sc lim os, .tup [.str "write", n, label, v]]) S o := by
  let H := houseD sc lim os
  let st : D := .tup [.str "write", n, label, v]
  let env0 : Fx.Env := [some H, some st, some (.str "write"), some n, some label, some v, none, none, none, none, none, none, none, none]
  have a0 : asg (getv 1) (toTup (toCons (toN 2) (toCons (toN 3) (toCons (toN 4) (toCons (toN 5) toNil))))) (ent 14 [H, st]) S = .ok (.nx env0) S := rfl
  have cE := cal2_ok (g := g_check_number) (f1 := getv 0) (f2 := getv 3) (env := env0) (S := S) (getv_ok rfl) (getv_ok rfl)
  have bad : memO os n = none → Ends (g_written_by [H, st]) S (.obj n) := fun hm => by
    obtain ⟨S', hb, hA⟩ := ck_bad S h hn hm
    exact ⟨S', body_ex (b := b_written_by) (env := env0) rfl ((seq_nx a0).trans (seq_ex (drop_ex' (cE.trans hb)))), hA⟩
  by_cases hm : memO os n = none
  · cases w with
    | obj h1 => exact bad hm
    | field e1 e2 _ _ => subst e1; have : memO os (.int _) = some _ := e2; rw [hm] at this; cases this
    | value e1 e2 _ _ _ _ => subst e1; have : memO os (.int _) = some _ := e2; rw [hm] at this; cases this
    | told e1 e2 _ _ _ _ => subst e1; have : memO os (.int _) = some _ := e2; rw [hm] at this; cases this
  · obtain ⟨i, c, rfl, hc⟩ : ∃ i c, n = .int i ∧ clsAt os i = some c := by
      cases n <;> first
        | exact absurd rfl hm
        | skip
      rename_i i
      cases e : clsAt os i with
      | none => exact absurd e hm
      | some c => exact ⟨i, c, rfl, e⟩
    obtain ⟨f, hf⟩ := clsAt_form h hc
    have hk := h.kok hf
    let S1 : Store := S ++ [some (.dct (os.map ckv))]
    let S2 : Store := S1 ++ [some (.dct (os.map ckv))]
    have A2 : After S S2 := (After.add ⟨_, rfl⟩ _)
    have hS2 : S2[S1.length]? = some (some (.dct (os.map ckv))) := by simp [S2]
    have s1 := drop_ok' (cE.trans (ck_good S h hc))
    let env1 : Fx.Env := [some H, some st, some (.str "write"), some (.int i), some label, some v, some (.tup (sc.map frow)), some (.int (lim : Nat)), some (.tup (os.map obD)), none, none, none, none, none]
    have a1 : asg (getv 0) (toTup (toCons (toN 6) (toCons (toN 7) (toCons (toN 8) toNil)))) env0 S1 = .ok (.nx env1) S1 := rfl
    let env2 : Fx.Env := [some H, some st, some (.str "write"), some (.int i), some label, some v, some (.tup (sc.map frow)), some (.int (lim : Nat)), some (.tup (os.map obD)), some (.obj S1.length), none, none, none, none]
    have s9 : Fx.set 9 (cal (cns (getv 0) (fun _ => pur [])) g_classes_of) env1 S1 = .ok (.nx env2) S2 := set_ok ((cal1_ok (g := g_classes_of) (getv_ok (i := 0) (env := env1) (S := S1) rfl)).trans (classes_of_ok S1 h))
    have dg : bin dgetD (getv 9) (getv 3) env2 S2 = .ok (.str c) S2 := by
      refine (bin_ok (g := dgetD) (getv_ok (i := 9) (env := env2) (S := S2) rfl) (getv_ok (i := 3) rfl)).trans ?_
      simp only [dgetD, objK, bd, hS2, keyOf, opt, pur, clsAt_val, hc, Option.map_some]
    have fo : cal (cns (getv 6) (cns (bin dgetD (getv 9) (getv 3)) (fun _ => pur []))) g_form_of env2 S2 = .ok (.tup (f.map row)) S2 := by
      refine (cal2_ok (g := g_form_of) (getv_ok (i := 6) (env := env2) (S := S2) rfl) dg).trans ?_
      have hcg : gd 0 (.str c) = true := h.cg (c, f) (formOf_some hf)
      have := form_of_ok S2 h.cg hcg (Nat.zero_le _)
      have e : formD sc (.str c) = some f := hf
      rw [e] at this
      exact this
    let env3 : Fx.Env := [some H, some st, some (.str "write"), some (.int i), some label, some v, some (.tup (sc.map frow)), some (.int (lim : Nat)), some (.tup (os.map obD)), some (.obj S1.length), some (.tup (f.map row)), none, none, none]
    have s10 : Fx.set 10 (cal (cns (getv 6) (cns (bin dgetD (getv 9) (getv 3)) (fun _ => pur []))) g_form_of) env2 S2 = .ok (.nx env3) S2 := set_ok fo
    let env4 : Fx.Env := [some H, some st, some (.str "write"), some (.int i), some label, some v, some (.tup (sc.map frow)), some (.int (lim : Nat)), some (.tup (os.map obD)), some (.obj S1.length), some (.tup (f.map row)), some (nD (placeF f 0 label)), none, none]
    have s11 : Fx.set 11 (cal (cns (getv 10) (cns (getv 4) (fun _ => pur []))) g_place_of) env3 S2 = .ok (.nx env4) S2 := set_ok ((cal2_ok (g := g_place_of) (getv_ok (i := 10) (env := env3) (S := S2) rfl) (getv_ok (i := 4) rfl)).trans (place_of_ok S2 hk.lg hl.1 hl.2))
    have c11 := tst_ok ((bink (g := isD) (d := .non) (getv_ok (i := 11) (env := env4) (S := S2) rfl)).trans (isD_non _ S2))
    have pre : ∀ {x : RsS}, (seqS (ifS (tst (bin isD (getv 11) (fun _ => pur .non))) (rz2 "InvalidStep" "step" "word" (cns (getv 1) (cns (fun _ => pur (.str "field")) (fun _ => pur [])))) pass) (seqS (ifS (notB (tst (cal (cns (bin ixD (bin ixD (getv 10) (getv 11)) (fun _ => pur (.int 1))) (cns (getv 5) (cns (getv 9) (fun _ => pur [])))) g_suits))) (rz2 "InvalidStep" "step" "word" (cns (getv 1) (cns (fun _ => pur (.str "value")) (fun _ => pur [])))) pass) (seqS (Fx.set 12 (cmp [13] mkL (itf (getv 8)) (toN 13) (fun _ => pur true) (iteV (tst (bin eqD (bin ixD (getv 13) (fun _ => pur (.int 0))) (getv 3))) (cal (cns (getv 13) (cns (getv 11) (cns (getv 5) (fun _ => pur [])))) g_with_value) (getv 13)))) (Fx.ret (dsp mkT (cns (getv 6) (cns (getv 7) (cns (cal (cns (getv 12) (fun _ => pur [])) tupleD) (fun _ => pur []))))))))) env4 S2 = x → b_written_by (ent 14 [H, st]) S = x := fun hx => (seq_nx a0).trans ((seq_nx s1).trans ((seq_nx a1).trans ((seq_nx s9).trans ((seq_nx s10).trans ((seq_nx s11).trans hx)))))
    have later : ∀ {k : Nat} {q : Str × D}, placeF f 0 label = some k → f[k]? = some q → (suitsP os q.2 v = false → ∃ S', g_written_by [H, st] S = .ex (stepX [.str "write", .int i, label, v] "value") S' ∧ After S S') ∧ (suitsP os q.2 v = true → ∃ S', g_written_by [H, st] S = .ok (houseD sc lim (wrote os i k v)) S' ∧ After S S') := by
      intro k q hp hq
      rw [hp] at c11
      have kl : k < f.length := (List.getElem?_eq_some_iff.mp hq).1
      have qm : q ∈ f := List.mem_of_getElem? hq
      have e11 : env4[11]? = some (some (.int (k : Nat))) := by show some (some (nD (placeF f 0 label))) = _; rw [hp]; rfl
      have r1 : (f.map row)[k]? = some (row q) := by rw [List.getElem?_map, hq]; rfl
      have k1 : bin ixD (bin ixD (getv 10) (getv 11)) (fun _ => pur (.int 1)) env4 S2 = .ok q.2 S2 := (bink (g := ixD) ((bin_ok (g := ixD) (getv_ok rfl) (getv_ok e11)).trans (ixTn r1))).trans (ix21 _ _ S2)
      have c12 := notB_ok (tst_ok ((cal3_ok (g := g_suits) k1 (getv_ok (i := 5) (env := env4) (S := S2) rfl) (getv_ok (i := 9) rfl)).trans (suits_ok S2 hS2 (hk.2.1 _ qm) hv.1 hv.2 fun o ho => (h.mem o ho).1)))
      refine ⟨fun hs => ?_, fun hs => ?_⟩
      · rw [hs] at c12
        exact ⟨S2, body_ex (b := b_written_by) (env := env4) rfl (pre ((if_no c11).trans (seq_ex ((ifS_t c12).trans rfl)))), A2⟩
      · rw [hs] at c12
        have it : itf (getv 8) env4 S2 = .ok (os.map obD) S2 := rfl
        have cm := cmp_map (vs := [13]) (t := toN 13) (el := iteV (tst (bin eqD (bin ixD (getv 13) (fun _ => pur (.int 0))) (getv 3))) (cal (cns (getv 13) (cns (getv 11) (cns (getv 5) (fun _ => pur [])))) g_with_value) (getv 13)) (env := env4) obD (fun o => obD (wr1 i k v o)) os it (fun o ho => by
          let env5 : Fx.Env := env4.set 13 (some (obD o))
          have t5 : tst (bin eqD (bin ixD (getv 13) (fun _ => pur (.int 0))) (getv 3)) env5 S2 = .ok ((o.1 : Int) == i) S2 := tst_ok ((bin_ok (g := eqD) (a := .int (o.1 : Nat)) rfl (getv_ok (i := 3) rfl)).trans (eqD_int _ _ S2))
          have e5 : env5[11]? = some (some (.int (k : Nat))) := e11
          refine ⟨env5, rfl, ?_⟩
          by_cases e : (o.1 : Int) = i
          · have e' : ((o.1 : Int) == i) = true := by simp [e]
            rw [e'] at t5
            have hoc : o.2.1 = c := by
              have := clsAt_mem h ho
              rw [e, hc] at this
              exact (Option.some.inj this).symm
            have vl := h.vl ho (by rw [hoc]; exact hf)
            refine (ite_t t5).trans (((cal3_ok (g := g_with_value) (getv_ok (i := 13) (env := env5) (S := S2) (d := obD o) rfl) (getv_ok (i := 11) e5) (getv_ok (i := 5) rfl)).trans (with_value_ok S2 (by omega) (by omega))).trans ?_)
            rw [wr1, if_pos e]
          · have e' : ((o.1 : Int) == i) = false := by simp [e]
            rw [e'] at t5
            refine (ite_f t5).trans ((getv_ok (i := 13) rfl).trans ?_)
            rw [wr1, if_neg e]) (by have := h.len; omega)
        have s12 := set_ok (i := 12) cm
        refine ⟨S2, body_rt (b := b_written_by) rfl (pre ((if_no c11).trans ((if_no c12).trans ((seq_nx s12).trans (ret_ok ?_))))), A2⟩
        refine dsp3 (getv_ok rfl) (getv_ok rfl) ?_
        refine (cal1_ok (g := tupleD) (getv_ok (i := 12) rfl)).trans ((tup_lst (sz _ (by rw [List.length_map]; have := h.len; omega))).trans ?_)
        rw [wrote, List.map_map]; rfl
    cases w with
    | obj h1 => exact absurd h1 hm
    | field e1 e2 e3 e4 =>
      cases e1
      rw [hc] at e2; cases e2
      rw [hf] at e3; cases e3
      rw [e4] at c11
      exact ⟨S2, body_ex (b := b_written_by) (env := env4) rfl (pre (seq_ex ((ifS_t c11).trans rfl))), A2⟩
    | value e1 e2 e3 e4 e5 e6 =>
      cases e1
      rw [hc] at e2; cases e2
      rw [hf] at e3; cases e3
      exact (later e4 e5).1 e6
    | told e1 e2 e3 e4 e5 e6 =>
      cases e1
      rw [hc] at e2; cases e2
      rw [hf] at e3; cases e3
      exact (later e4 e5).2 e6
theorem written_ok {n label v : D} {o : Oc} {m1 m2 m3 : Nat} (S : Store) (h : HouseOk sc lim os) (hn : gd m1 n = true) (hl : gd m2 label = true ∧ dep label ≤ 60) (hv : gd m3 v = true ∧ flatP v = true) (w : WV sc lim os n label v o) :
    Ends (g_written [houseD sc lim os, n, label, v]) S o := by
  refine Ends.body (n := 4) (m := 4) rfl ?_
  refine Ends.congr (m' := g_written_by [houseD sc lim os, .tup [.str "write", n, label, v]]) ?_ (written_by_ok S h hn hl hv w)
  exact cal2_ok (getv_ok rfl) (dsp4 rfl (getv_ok rfl) (getv_ok rfl) (getv_ok rfl))
end
end K18

end
/-! ## K18k -/
section
namespace K18
variable [Fx.Tabl]
open PySem Fx
open L2 (atI ixN Key)
/-! ### the law on writing -/
def numsL : List D := (List.range 21).map (fun k : Nat => D.int k) ++ [.int (-1), .non, .bl true, .str "a", .tup [.int 0]]
def labelsL : List D := [.str "k", .str "n", .str "to", .str "w", .str "z", .str "", .non, .int 0, .tup [.str "k"]]
def isI (k : Nat) : D → Bool
  | .int i => decide ((k : Int) = i)
  | _ => false
theorem nums_ok : ∀ d ∈ numsL, gd big60 d = true ∧ gd 1000 d = true ∧ wgt d ≤ 260000 ∧ dep d ≤ 60 := by decide +kernel
theorem labels_ok : ∀ d ∈ labelsL, gd big60 d = true ∧ gd 1000 d = true ∧ wgt d ≤ 260000 ∧ dep d ≤ 60 := by decide +kernel
theorem shown_num : ∀ d ∈ numsL, ∀ k ∈ List.range 21, decide (shw d = shw (.int (k : Nat))) = isI k d := by decide +kernel
theorem shown_lab : ∀ d ∈ labelsL, ∀ x ∈ labs, decide (shw d = shw (.str x)) = isS x d := by decide +kernel
theorem num_rp : ∀ k ∈ List.range 21, gd big60 (.int (k : Nat)) = true ∧ wgt (.int (k : Nat)) ≤ 260000 ∧ dep (.int (k : Nat)) ≤ 64 := by decide +kernel
theorem labs_rp : ∀ x ∈ labs, gd big60 (.str x) = true ∧ wgt (.str x) ≤ 260000 ∧ dep (.str x) ≤ 64 := by decide +kernel
theorem clsAt_cons (o : Ob) (os : List Ob) (i : Int) : clsAt (o :: os) i = if (o.1 : Int) = i then some o.2.1 else clsAt os i := by
  unfold clsAt
  rw [List.find?_cons]
  by_cases h : (o.1 : Int) = i
  · simp [h]
  · simp [h]
theorem num_mem {d : D} (hd : d ∈ numsL) : ∀ {os : List Ob}, (∀ o ∈ os, o.1 ≤ 20) → decide (shw d ∈ os.map fun o => shw (.int (o.1 : Nat))) = (memO os d).isSome
  | [], _ => by
    have : memO [] d = none := by cases d <;> rfl
    rw [this]; simp
  | o :: os, h => by
    have ih := num_mem hd (os := os) fun g hg => h g (List.mem_cons_of_mem _ hg)
    have t := shown_num d hd o.1 (List.mem_range.mpr (by have := h o (by simp); omega))
    rw [List.map_cons]
    cases hq : isI o.1 d with
    | true =>
      rw [hq] at t
      obtain ⟨i, rfl, hi⟩ : ∃ i, d = .int i ∧ (o.1 : Int) = i := by
        cases d <;> first
          | exact ⟨_, rfl, of_decide_eq_true hq⟩
          | cases hq
      have : memO (o :: os) (.int i) = some o.2.1 := by show clsAt _ _ = _; rw [clsAt_cons, if_pos hi]
      rw [this]
      simp [of_decide_eq_true t]
    | false =>
      rw [hq] at t
      have : memO (o :: os) d = memO os d := by
        cases d <;> first
          | rfl
          | skip
        show clsAt _ _ = clsAt _ _
        rw [clsAt_cons, if_neg (of_decide_eq_false hq)]
      rw [this, ← ih]
      simp [of_decide_eq_false t]
theorem placeF_cons (q : Str × D) (f : List (Str × D)) (k : Nat) (d : D) : placeF (q :: f) k d = if isS q.1 d = true then some k else placeF f (k + 1) d := rfl
theorem lab_mem {d : D} (hd : d ∈ labelsL) : ∀ {f : List (Str × D)} {k : Nat}, (∀ q ∈ f, q.1 ∈ labs) → decide (shw d ∈ f.map fun q => shw (.str q.1)) = (placeF f k d).isSome
  | [], _, _ => by simp [placeF]
  | q :: f, k, h => by
    have ih := lab_mem hd (f := f) (k := k + 1) fun g hg => h g (List.mem_cons_of_mem _ hg)
    have t := shown_lab d hd q.1 (h q (by simp))
    rw [placeF_cons, List.map_cons]
    cases hq : isS q.1 d with
    | true =>
      rw [hq] at t
      rw [if_pos rfl]
      simp [of_decide_eq_true t]
    | false =>
      rw [hq] at t
      rw [if_neg (by decide), ← ih]
      simp [of_decide_eq_false t]
theorem itf_ok {f : Fx.Env → M D} {env : Fx.Env} {S S' : Store} {ds : List D} (h : f env S = .ok (.tup ds) S') : itf f env S = .ok ds S' := by
  simp only [itf, bd, h]; rfl
theorem cal3_mid {f1 f2 f3 : Fx.Env → M D} {g : List D → M D} {env : Fx.Env} {S S1 : Store} {a b c : D} (h1 : f1 env S = .ok a S) (h2 : f2 env S = .ok b S1) (h3 : f3 env S1 = .ok c S1) : cal (cns f1 (cns f2 (cns f3 (fun _ => pur [])))) g env S = g [a, b, c] S1 := by
  simp only [cal, cns, bd, h1, h2, h3, pur]
theorem bool_comm (x y : Str) : (decide (x = y)) = decide (y = x) := by
  by_cases h : x = y
  · subst h; rfl
  · rw [decide_eq_false h, decide_eq_false fun e => h e.symm]
theorem find_place (x : Str) : ∀ (f : List (Str × D)) (k j : Nat), placeF f k (.str x) = some j → k ≤ j ∧ (f.map (·.1)).findIdx? (fun a => decide (a = x)) = some (j - k)
  | q :: f, k, j, h => by
    rw [placeF_cons] at h
    rw [List.map_cons, List.findIdx?_cons]
    by_cases e : isS q.1 (.str x) = true
    · rw [if_pos e] at h
      cases h
      have e : decide (q.1 = x) = true := e
      rw [if_pos e]
      simp
    · rw [if_neg e] at h
      have e : ¬ decide (q.1 = x) = true := e
      obtain ⟨h1, h2⟩ := find_place x f (k + 1) j h
      rw [if_neg e, h2]
      refine ⟨by omega, ?_⟩
      simp only [Option.map_some]
      congr 1; omega
theorem place_idx {f : List (Str × D)} {x : Str} {k : Nat} (h : placeF f 0 (.str x) = some k) (S : Store) : idxL (.lst (f.map fun q => D.str q.1)) (.str x) S = .ok (.int (k : Nat)) S := by
  have e : f.map (fun q => D.str q.1) = (f.map (·.1)).map D.str := by rw [List.map_map]; rfl
  have := (find_place x f 0 k h).2
  rw [Nat.sub_zero] at this
  simp only [idxL, seqL, seqM, bd, pur, opt, e, strsOf_map, strOf, this]
theorem app_mid {i : Nat} {e : Fx.Env → M D} {env : Fx.Env} {P L L' : Store} {xs0 xs : List D} {y : D} (hi : env[i]? = some (some (.obj P.length))) (he : e env (P ++ some (.lst xs0) :: L) = .ok y (P ++ some (.lst xs) :: L')) (hl : xs.length ≤ 1000) :
    Fx.drop (met (getv i) (cns e (fun _ => pur [])) appD) env (P ++ some (.lst xs0) :: L) = .ok (.nx env) (P ++ some (.lst (xs ++ [y])) :: L') := by
  refine drop_ok' (d := .non) ?_
  have g : ∀ T, getv i env T = .ok (.obj P.length) T := fun T => getv_ok hi
  have q : ∀ (zs : List D) (L : Store), objL (.obj P.length) (P ++ some (.lst zs) :: L) = .ok (P.length, zs) (P ++ some (.lst zs) :: L) := fun zs L => by simp [objL]
  simp only [met, bd, g, q, cns, he, pur, appD]
  rw [if_pos (Nat.lt_of_lt_of_le (show xs.length < 300000 by omega) (by decide))]
  simp [putL]
theorem frz_mid {i : Nat} {b : Fx.Env → MS} {env : Fx.Env} {P L : Store} {xs : List D} (hi : env[i]? = some (some (.obj P.length))) : frzV i b env (P ++ some (.lst xs) :: L) = b (env.set i (some (.lst xs))) (P ++ none :: L) := by
  simp [frzV, hi]
/-! the new values, for any length -/
def putC (k : Nat) (v : D) (vs : List D) : List D := cutD vs none (some (k : Int)) ++ [v] ++ cutD vs (some ((k + 1 : Nat) : Int)) none
theorem putC_eq {k : Nat} {v : D} {vs : List D} (h : k < vs.length) : putC k v vs = putAt k v vs := by
  rw [putC, cut_take (by omega), cut_drop (by omega)]; rfl
theorem cut_len (vs : List D) (a b : Option Int) : (cutD vs a b).length ≤ vs.length := by
  unfold cutD
  rw [List.length_take, List.length_drop]; omega
theorem putC_ok {f : Fx.Env → M D} {j w : Nat} {env : Fx.Env} {S : Store} {vs : List D} {k : Nat} {v : D} (hf : f env S = .ok (.tup vs) S) (hj : getv j env S = .ok (.int (k : Nat)) S) (hw : getv w env S = .ok v S) (hl : vs.length ≤ 1000) :
    bin (addD mkL) (bin (addD mkL) (slc f (fun _ => pur none) (fun env => bd ((getv j) env) intOf)) (dsp mkT (cns (getv w) (fun _ => pur [])))) (slc f (fun env => bd ((bin (addD mkL) (getv j) (fun _ => pur (.int 1))) env) intOf) (fun _ => pur none)) env S = .ok (.tup (putC k v vs)) S := by
  have z : ∀ n, n ≤ 3000 → n ≤ sizeLine := fun n hn => sz n (by omega)
  have l1 := cut_len vs none (some (k : Int))
  have l2 := cut_len vs (some ((k + 1 : Nat) : Int)) none
  have s1 : slc f (fun _ => pur none) (fun env => bd ((getv j) env) intOf) env S = .ok (.tup (cutD vs none (some (k : Int)))) S := by
    simp only [slc, bd, hf, hj, pur, intOf, slD]
    rw [if_pos (z _ (by omega))]; rfl
  have a1 : bin (addD mkL) (getv j) (fun _ => pur (.int 1)) env S = .ok (.int ((k + 1 : Nat) : Int)) S := (bink (g := addD mkL) hj).trans rfl
  have s2 : slc f (fun env => bd ((bin (addD mkL) (getv j) (fun _ => pur (.int 1))) env) intOf) (fun _ => pur none) env S = .ok (.tup (cutD vs (some ((k + 1 : Nat) : Int)) none)) S := by
    simp only [slc, bd, hf, a1, pur, intOf, slD]
    rw [if_pos (z _ (by omega))]; rfl
  have d1 : dsp mkT (cns (getv w) (fun _ => pur [])) env S = .ok (.tup [v]) S := by
    rw [dsp]
    simp only [cns, bd, hw, pur]
    exact mkT_ok (sz 1 (by decide))
  have b1 : bin (addD mkL) (slc f (fun _ => pur none) (fun env => bd ((getv j) env) intOf)) (dsp mkT (cns (getv w) (fun _ => pur []))) env S = .ok (.tup (cutD vs none (some (k : Int)) ++ [v])) S := by
    refine (bin_ok s1 d1).trans ?_
    simp only [addD]
    rw [if_pos (z _ (by rw [List.length_singleton]; omega))]; rfl
  refine (bin_ok b1 s2).trans ?_
  unfold putC
  generalize cutD vs (some ((k + 1 : Nat) : Int)) none = c2 at l2 ⊢
  generalize cutD vs none (some (k : Int)) = c1 at l1 ⊢
  simp only [addD]
  rw [if_pos (z _ (by rw [List.length_append, List.length_singleton]; omega))]; rfl
section
variable {sc : List Form} {lim : Nat} {os : List Ob}
theorem HouseOk.l20 (h : HouseOk sc lim os) : ∀ o ∈ os, o.1 ≤ 20 := fun o ho => by have := h.lt o ho; have := h.li; omega
theorem is_member_ok {d : D} (S : Store) (h : HouseOk sc lim os) (hd : d ∈ numsL) : g_law_is_member [houseD sc lim os, d] S = .ok (.bl (memO os d).isSome) S := by
  let env : Fx.Env := [some (houseD sc lim os), some d, none, none, none]
  obtain ⟨ga, _, gb, gc⟩ := nums_ok d hd
  have a1 := (cal1_ok (g := reprD) (getv_ok (i := 1) (env := env) (S := S) rfl)).trans (repr_ok ga gb (Nat.le_trans gc (by decide)))
  have it : itf (bin ixD (getv 0) (fun _ => pur (.int 2))) env S = .ok (os.map obD) S := rfl
  have a2 := cmp_map (vs := [2, 3, 4]) (t := toTup (toCons (toN 2) (toCons (toN 3) (toCons (toN 4) toNil)))) (el := cal (cns (getv 2) (fun _ => pur [])) reprD) (env := env) obD (fun o => D.str (shw (.int (o.1 : Nat)))) os it (fun o ho => by
    obtain ⟨a, b, c⟩ := num_rp o.1 (List.mem_range.mpr (by have := h.l20 o ho; omega))
    exact ⟨_, rfl, (cal1_ok (g := reprD) (getv_ok (d := .int (o.1 : Nat)) rfl)).trans (repr_ok a b c)⟩) (by have := h.len; omega)
  have e : os.map (fun o => D.str (shw (.int (o.1 : Nat)))) = (os.map fun o => shw (.int (o.1 : Nat))).map D.str := by rw [List.map_map]; rfl
  rw [e] at a2
  refine body_rt (b := b_law_is_member) rfl (ret_ok ((bin_ok (g := inD false) a1 a2).trans ((in_names _ _ S).trans ?_)))
  rw [← num_mem hd h.l20]; rfl
def bWd : Fx.Env → MS := (seqS (Fx.set 13 (bin (addD mkL) (bin (addD mkL) (slc (getv 7) (fun _ => pur none) (fun env => bd ((getv 11) env) intOf)) (dsp mkT (cns (getv 3) (fun _ => pur [])))) (slc (getv 7) (fun env => bd ((bin (addD mkL) (getv 11) (fun _ => pur (.int 1))) env) intOf) (fun _ => pur none)))) (Fx.drop (met (getv 12) (cns (dsp mkT (cns (getv 5) (cns (getv 6) (cns (iteV (tst (bin eqD (getv 5) (getv 1))) (getv 13) (getv 7)) (fun _ => pur []))))) (fun _ => pur [])) appD)))
theorem wr_loop {H label v c nm : D} {i : Int} {k : Nat} {z9 z10 : Option D} {P L : Store} : ∀ (xs : List Ob) (acc : List D) (z5 z6 z7 z13 : Option D), (∀ o ∈ xs, (o.1 : Int) = i → k < o.2.2.length) → (∀ o ∈ xs, o.2.2.length ≤ 4) → acc.length + xs.length ≤ 1000 →
    ∃ y5 y6 y7 y13, loop (toTup (toCons (toN 5) (toCons (toN 6) (toCons (toN 7) toNil)))) bWd (xs.map obD) [some H, some (.int i), some label, some v, some c, z5, z6, z7, some nm, z9, z10, some (.int (k : Nat)), some (.obj P.length), z13] (P ++ some (.lst acc) :: L) =
      .ok (.nx [some H, some (.int i), some label, some v, some c, y5, y6, y7, some nm, z9, z10, some (.int (k : Nat)), some (.obj P.length), y13]) (P ++ some (.lst (acc ++ xs.map fun o => obD (wr1 i k v o))) :: L)
  | [], acc, z5, z6, z7, z13, _, _, _ => ⟨z5, z6, z7, z13, by simp [loop]⟩
  | o :: xs, acc, z5, z6, z7, z13, hk, h4, hl => by
    rw [List.length_cons] at hl
    let S : Store := P ++ some (.lst acc) :: L
    let env0 : Fx.Env := [some H, some (.int i), some label, some v, some c, some (.int (o.1 : Nat)), some (.str o.2.1), some (.tup o.2.2), some nm, z9, z10, some (.int (k : Nat)), some (.obj P.length), z13]
    let env1 : Fx.Env := [some H, some (.int i), some label, some v, some c, some (.int (o.1 : Nat)), some (.str o.2.1), some (.tup o.2.2), some nm, z9, z10, some (.int (k : Nat)), some (.obj P.length), some (.tup (putC k v o.2.2))]
    have hs : toTup (toCons (toN 5) (toCons (toN 6) (toCons (toN 7) toNil))) (obD o) [some H, some (.int i), some label, some v, some c, z5, z6, z7, some nm, z9, z10, some (.int (k : Nat)), some (.obj P.length), z13] = some env0 := rfl
    have s13 : Fx.set 13 _ env0 S = .ok (.nx env1) S := set_ok (putC_ok (f := getv 7) (j := 11) (w := 3) (env := env0) (S := S) (getv_ok rfl) (getv_ok rfl) (getv_ok rfl) (by have := h4 o (by simp); omega))
    have t5 : tst (bin eqD (getv 5) (getv 1)) env1 S = .ok ((o.1 : Int) == i) S := tst_ok ((bin_ok (g := eqD) (getv_ok rfl) (getv_ok rfl)).trans (eqD_int _ _ S))
    have el : dsp mkT (cns (getv 5) (cns (getv 6) (cns (iteV (tst (bin eqD (getv 5) (getv 1))) (getv 13) (getv 7)) (fun _ => pur [])))) env1 S = .ok (obD (wr1 i k v o)) S := by
      by_cases e : (o.1 : Int) = i
      · have e' : ((o.1 : Int) == i) = true := by simp [e]
        rw [e'] at t5
        refine (dsp3 (getv_ok rfl) (getv_ok rfl) ((ite_t t5).trans (getv_ok rfl))).trans ?_
        rw [putC_eq (hk o (by simp) e), wr1, if_pos e]
      · have e' : ((o.1 : Int) == i) = false := by simp [e]
        rw [e'] at t5
        refine (dsp3 (getv_ok rfl) (getv_ok rfl) ((ite_f t5).trans (getv_ok rfl))).trans ?_
        rw [wr1, if_neg e]
    have st : bWd env0 S = .ok (.nx env1) (P ++ some (.lst (acc ++ [obD (wr1 i k v o)])) :: L) := (seq_nx s13).trans (app_mid (i := 12) (env := env1) rfl el (by omega))
    obtain ⟨y5, y6, y7, y13, ih⟩ := wr_loop (H := H) (label := label) (c := c) (nm := nm) (z9 := z9) (z10 := z10) (P := P) (L := L) xs (acc ++ [obD (wr1 i k v o)]) (some (.int (o.1 : Nat))) (some (.str o.2.1)) (some (.tup o.2.2)) (some (.tup (putC k v o.2.2))) (fun o' h => hk o' (List.mem_cons_of_mem _ h)) (fun o' h => h4 o' (List.mem_cons_of_mem _ h)) (by rw [List.length_append, List.length_singleton]; omega)
    refine ⟨y5, y6, y7, y13, ?_⟩
    rw [List.map_cons]
    unfold loop
    have st : bWd env0 (P ++ some (.lst acc) :: L) = .ok (.nx env1) (P ++ some (.lst (acc ++ [obD (wr1 i k v o)])) :: L) := st
    simp only [hs, st]
    rw [ih, List.append_assoc]; rfl
theorem head_cls {i : Int} {c : Str} (h : clsAt os i = some c) : ((os.filter fun o => (o.1 : Int) == i).map fun o => D.str o.2.1)[0]? = some (.str c) := by
  unfold clsAt at h
  have e : (fun o : Ob => decide ((o.1 : Int) = i)) = fun o => (o.1 : Int) == i := by funext o; simp [Bool.beq_eq_decide_eq]
  rw [e] at h
  rw [List.getElem?_map]
  have : (os.filter fun o => (o.1 : Int) == i)[0]? = os.find? fun o => (o.1 : Int) == i := by rw [← List.head?_eq_getElem?, List.head?_filter]
  rw [this]
  cases e : os.find? (fun o => (o.1 : Int) == i) with
  | none => rw [e] at h; cases h
  | some o => rw [e] at h; cases h; rfl
theorem written_due_ok {n label v : D} {o : Oc} (S : Store) (h : HouseOk sc lim os) (hn : n ∈ numsL) (hl : label ∈ labelsL) (hv : gd big60 v = true ∧ flatP v = true) (w : WV sc lim os n label v o) :
    ∃ S', g_law_written_due [houseD sc lim os, n, label, v] S = .ok o.due S' ∧ After S S' := by
  let H := houseD sc lim os
  let env0 : Fx.Env := ent 14 [H, n, label, v]
  have c0 := notB_ok (tst_ok ((cal2_ok (g := g_law_is_member) (f1 := getv 0) (f2 := getv 1) (env := env0) (S := S) (getv_ok rfl) (getv_ok rfl)).trans (is_member_ok S h hn)))
  by_cases hm : memO os n = none
  · rw [hm] at c0
    have bad : ∃ S', g_law_written_due [H, n, label, v] S = .ok (Oc.obj n).due S' ∧ After S S' := ⟨S, body_rt (b := b_law_written_due) rfl (seq_rt ((ifS_t c0).trans (ret_ok (dsp2 rfl (getv_ok rfl))))), .refl S⟩
    cases w with
    | obj h1 => exact bad
    | field e1 e2 _ _ => subst e1; have : memO os (.int _) = some _ := e2; rw [hm] at this; cases this
    | value e1 e2 _ _ _ _ => subst e1; have : memO os (.int _) = some _ := e2; rw [hm] at this; cases this
    | told e1 e2 _ _ _ _ => subst e1; have : memO os (.int _) = some _ := e2; rw [hm] at this; cases this
  · obtain ⟨i, c, rfl, hc⟩ : ∃ i c, n = .int i ∧ clsAt os i = some c := by
      cases n <;> first
        | exact absurd rfl hm
        | skip
      rename_i i
      cases e : clsAt os i with
      | none => exact absurd e hm
      | some c => exact ⟨i, c, rfl, e⟩
    have hc' : memO os (.int i) = some c := hc
    rw [hc'] at c0
    obtain ⟨f, hf⟩ := clsAt_form h hc
    have hk := h.kok hf
    have it0 : itf (bin ixD (getv 0) (fun _ => pur (.int 2))) env0 S = .ok (os.map obD) S := rfl
    have cm := cmp_mapS (vs := [5, 6, 7]) (t := toTup (toCons (toN 5) (toCons (toN 6) (toCons (toN 7) toNil)))) (c := tst (bin eqD (getv 5) (getv 1))) (el := getv 6) (env := env0) obD (fun o => D.str o.2.1) (fun o => (o.1 : Int) == i) os it0 (fun o ho => by
      refine ⟨[some H, some (.int i), some label, some v, none, some (.int (o.1 : Nat)), some (.str o.2.1), some (.tup o.2.2), none, none, none, none, none, none], rfl, ?_, fun _ => getv_ok rfl⟩
      exact tst_ok ((bin_ok (g := eqD) (getv_ok rfl) (getv_ok rfl)).trans (eqD_int _ _ S))) (by have := h.len; omega)
    let env1 : Fx.Env := [some H, some (.int i), some label, some v, some (.str c), none, none, none, none, none, none, none, none, none]
    have s4 : Fx.set 4 (bin ixD (cmp [5, 6, 7] mkL (itf (bin ixD (getv 0) (fun _ => pur (.int 2)))) (toTup (toCons (toN 5) (toCons (toN 6) (toCons (toN 7) toNil)))) (tst (bin eqD (getv 5) (getv 1))) (getv 6)) (fun _ => pur (.int 0))) env0 S = .ok (.nx env1) S := set_ok ((bink (g := ixD) (d := .int 0) cm).trans (ix_lst (k := 0) rfl (head_cls hc)))
    let S1 : Store := S ++ [some (.dct (fkvs sc))]
    have g8 := dget_sc (f1 := bin ixD (getv 0) (fun _ => pur (.int 0))) (f2 := getv 4) (env := env1) (S := S) h.s.nd rfl (fun T => getv_ok rfl) hf
    have c8 := cmp_map (vs := [9, 10]) (t := toTup (toCons (toN 9) (toCons (toN 10) toNil))) (el := getv 9) (env := env1) row (fun q => D.str q.1) f (itf_ok g8) (fun q hq => ⟨[some H, some (.int i), some label, some v, some (.str c), none, none, none, none, some (.str q.1), some q.2, none, none, none], rfl, getv_ok rfl⟩) (by have := hk.1; omega)
    let nm : D := .lst (f.map fun q => D.str q.1)
    let env2 : Fx.Env := [some H, some (.int i), some label, some v, some (.str c), none, none, none, some nm, none, none, none, none, none]
    have s8 : Fx.set 8 (cmp [9, 10] mkL (itf (bin dgetD (cal (cns (bin ixD (getv 0) (fun _ => pur (.int 0))) (fun _ => pur [])) dictD) (getv 4))) (toTup (toCons (toN 9) (toCons (toN 10) toNil))) (fun _ => pur true) (getv 9)) env1 S = .ok (.nx env2) S1 := set_ok c8
    obtain ⟨la, _, lb, lc⟩ := labels_ok label hl
    have r1 := (cal1_ok (g := reprD) (getv_ok (i := 2) (env := env2) (S := S1) rfl)).trans (repr_ok la lb (Nat.le_trans lc (by decide)))
    have it8 : itf (getv 8) env2 S1 = .ok (f.map fun q => D.str q.1) S1 := rfl
    have r2 := cmp_map (vs := [9]) (t := toN 9) (el := cal (cns (getv 9) (fun _ => pur [])) reprD) (env := env2) (fun q : Str × D => D.str q.1) (fun q => D.str (shw (.str q.1))) f it8 (fun q hq => by
      obtain ⟨a, b, c'⟩ := labs_rp q.1 (hk.2.2 q hq)
      exact ⟨[some H, some (.int i), some label, some v, some (.str c), none, none, none, some nm, some (.str q.1), none, none, none, none], rfl, (cal1_ok (g := reprD) (getv_ok rfl)).trans (repr_ok a b c')⟩) (by have := hk.1; omega)
    have e : f.map (fun q => D.str (shw (.str q.1))) = (f.map fun q => shw (.str q.1)).map D.str := by rw [List.map_map]; rfl
    rw [e] at r2
    have c9 := tst_ok ((bin_ok (g := inD true) r1 r2).trans (notin_names _ _ S1))
    rw [show decide ((py label).shown ∈ f.map fun q => shw (.str q.1)) = (placeF f 0 label).isSome from lab_mem hl hk.2.2] at c9
    have pre : ∀ {x : RsS}, (seqS (ifS (tst (bin (inD true) (cal (cns (getv 2) (fun _ => pur [])) reprD) (cmp [9] mkL (itf (getv 8)) (toN 9) (fun _ => pur true) (cal (cns (getv 9) (fun _ => pur [])) reprD)))) (Fx.ret (dsp mkT (cns (fun _ => pur (.str "step")) (cns (dsp mkT (cns (fun _ => pur (.str "write")) (cns (getv 1) (cns (getv 2) (cns (getv 3) (fun _ => pur [])))))) (cns (fun _ => pur (.str "field")) (fun _ => pur [])))))) pass) (seqS (par 11 12 (cns (idxE (getv 8) (cns (getv 2) (fun _ => pur []))) (cns (dsp mkN (fun _ => pur [])) (fun _ => pur [])))) (seqS (ifS (notB (tst (cal (cns (getv 0) (cns (bin ixD (bin ixD (bin dgetD (cal (cns (bin ixD (getv 0) (fun _ => pur (.int 0))) (fun _ => pur [])) dictD) (getv 4)) (getv 11)) (fun _ => pur (.int 1))) (cns (getv 3) (fun _ => pur [])))) g_law_suits))) (Fx.ret (dsp mkT (cns (fun _ => pur (.str "step")) (cns (dsp mkT (cns (fun _ => pur (.str "write")) (cns (getv 1) (cns (getv 2) (cns (getv 3) (fun _ => pur [])))))) (cns (fun _ => pur (.str "value")) (fun _ => pur [])))))) pass) (seqS (forS (itf (bin ixD (getv 0) (fun _ => pur (.int 2)))) (toTup (toCons (toN 5) (toCons (toN 6) (toCons (toN 7) toNil)))) (seqS (Fx.set 13 (bin (addD mkL) (bin (addD mkL) (slc (getv 7) (fun _ => pur none) (fun env => bd ((getv 11) env) intOf)) (dsp mkT (cns (getv 3) (fun _ => pur [])))) (slc (getv 7) (fun env => bd ((bin (addD mkL) (getv 11) (fun _ => pur (.int 1))) env) intOf) (fun _ => pur none)))) (Fx.drop (met (getv 12) (cns (dsp mkT (cns (getv 5) (cns (getv 6) (cns (iteV (tst (bin eqD (getv 5) (getv 1))) (getv 13) (getv 7)) (fun _ => pur []))))) (fun _ => pur [])) appD)))) (frzV 12 (Fx.ret (dsp mkT (cns (fun _ => pur (.str "told")) (cns (dsp mkT (cns (bin ixD (getv 0) (fun _ => pur (.int 0))) (cns (bin ixD (getv 0) (fun _ => pur (.int 1))) (cns (cal (cns (getv 12) (fun _ => pur [])) tupleD) (fun _ => pur []))))) (fun _ => pur [])))))))))) env2 S1 = x → b_law_written_due (ent 14 [H, .int i, label, v]) S = x := fun hx => (if_no c0).trans ((seq_nx s4).trans ((seq_nx s8).trans hx))
    have later : ∀ {k : Nat} {q : Str × D}, placeF f 0 label = some k → f[k]? = some q → (suitsP os q.2 v = false → ∃ S', g_law_written_due [H, .int i, label, v] S = .ok (Oc.step [.str "write", .int i, label, v] "value").due S' ∧ After S S') ∧ (suitsP os q.2 v = true → ∃ S', g_law_written_due [H, .int i, label, v] S = .ok (Oc.told (houseD sc lim (wrote os i k v))).due S' ∧ After S S') := by
      intro k q hp hq
      rw [hp] at c9
      obtain ⟨x, rfl⟩ : ∃ x, label = .str x := by
        obtain ⟨_, q', _, hq'⟩ := placeF_get hp
        cases label <;> first
          | exact ⟨_, rfl⟩
          | cases hq'
      have kl : k < f.length := (List.getElem?_eq_some_iff.mp hq).1
      have qm : q ∈ f := List.mem_of_getElem? hq
      let S2 : Store := S1 ++ [some (.lst [])]
      let env3 : Fx.Env := [some H, some (.int i), some (.str x), some v, some (.str c), none, none, none, some nm, none, none, some (.int (k : Nat)), some (.obj S1.length), none]
      have ix : idxE (getv 8) (cns (getv 2) (fun _ => pur [])) env2 S1 = .ok (.int (k : Nat)) S1 := by
        have g8 : getv 8 env2 S1 = .ok nm S1 := getv_ok rfl
        have g2 : getv 2 env2 S1 = .ok (.str x) S1 := getv_ok rfl
        have q8 : seqL nm S1 = .ok (f.map fun q => D.str q.1) S1 := rfl
        simp only [idxE, bd, g8, q8, cns, g2, pur]
        exact place_idx hp S1
      have mk : dsp mkN (fun _ => pur []) env2 S1 = .ok (.obj S1.length) S2 := mkN_ok rfl (by decide)
      have s5 : (par 11 12 (cns (idxE (getv 8) (cns (getv 2) (fun _ => pur []))) (cns (dsp mkN (fun _ => pur [])) (fun _ => pur [])))) env2 S1 = .ok (.nx env3) S2 := by
        simp only [par, lft, cns, bd, ix, mk, pur]; rfl
      let S3 : Store := S2 ++ [some (.dct (fkvs sc))]
      have g6 := dget_sc (f1 := bin ixD (getv 0) (fun _ => pur (.int 0))) (f2 := getv 4) (env := env3) (S := S2) h.s.nd rfl (fun T => getv_ok rfl) hf
      have r6 : (f.map row)[k]? = some (row q) := by rw [List.getElem?_map, hq]; rfl
      have k6 : (bin ixD (bin ixD (bin dgetD (cal (cns (bin ixD (getv 0) (fun _ => pur (.int 0))) (fun _ => pur [])) dictD) (getv 4)) (getv 11)) (fun _ => pur (.int 1))) env3 S2 = .ok q.2 S3 := (bin_okS (g := ixD) ((bin_okS (g := ixD) g6 (getv_ok (i := 11) (d := .int (k : Nat)) rfl)).trans (ixTn r6)) rfl).trans (ix21 _ _ S3)
      have c10 := notB_ok (tst_ok ((cal3_mid (g := g_law_suits) (getv_ok (i := 0) (env := env3) (S := S2) rfl) k6 (getv_ok (i := 3) rfl)).trans (law_suits_ok S3 h (hk.2.1 _ qm) hv.1 hv.2)))
      have A3 : After S S3 := ((After.add (.refl S) _).add _).add _
      refine ⟨fun hs => ?_, fun hs => ?_⟩
      · rw [hs] at c10
        refine ⟨S3, body_rt (b := b_law_written_due) rfl (pre ((if_no c9).trans ((seq_nx s5).trans (seq_rt ((ifS_t c10).trans (ret_ok ?_)))))), A3⟩
        exact dsp3 rfl (dsp4 rfl (getv_ok rfl) (getv_ok rfl) (getv_ok rfl)) rfl
      · rw [hs] at c10
        have e3 : S3 = S1 ++ some (.lst []) :: [some (.dct (fkvs sc))] := by simp [S3, S2]
        obtain ⟨y5, y6, y7, y13, lp⟩ := wr_loop (H := H) (label := .str x) (v := v) (c := .str c) (nm := nm) (i := i) (k := k) (z9 := none) (z10 := none) (P := S1) (L := [some (.dct (fkvs sc))]) os [] none none none none (fun o ho e => by
          have hoc : o.2.1 = c := by
            have := clsAt_mem h ho
            rw [e, hc] at this
            exact (Option.some.inj this).symm
          have := (h.vl ho (by rw [hoc]; exact hf)).1
          omega) (fun o ho => by
          obtain ⟨f', hf'⟩ := Option.isSome_iff_exists.mp (formOf_isSome (h.c o ho))
          exact (h.vl ho hf').2) (by have := h.len; simp; omega)
        rw [List.nil_append, ← e3] at lp
        have it7 : itf (bin ixD (getv 0) (fun _ => pur (.int 2))) env3 S3 = .ok (os.map obD) S3 := rfl
        let T : Store := S1 ++ none :: [some (.dct (fkvs sc))]
        refine ⟨T, body_rt (b := b_law_written_due) rfl (pre ((if_no c9).trans ((seq_nx s5).trans ((if_no c10).trans ((seq_nx ((for_ok it7).trans lp)).trans ((frz_mid rfl).trans (ret_ok ?_))))))), ?_⟩
        · refine dsp2 rfl (dsp3 (S1 := T) (S2 := T) rfl rfl ((cal1_ok (g := tupleD) (getv_ok (i := 12) rfl)).trans ?_))
          refine (tup_lst (sz _ (by rw [List.length_map]; have := h.len; omega))).trans ?_
          rw [wrote, List.map_map]; rfl
        · exact ⟨[some (.dct (fkvs sc))] ++ none :: [some (.dct (fkvs sc))], by simp [T, S1]⟩
    cases w with
    | obj h1 => exact absurd h1 hm
    | field e1 e2 e3 e4 =>
      cases e1
      rw [hc] at e2; cases e2
      rw [hf] at e3; cases e3
      rw [e4] at c9
      refine ⟨S1, body_rt (b := b_law_written_due) rfl (pre (seq_rt ((ifS_t c9).trans (ret_ok ?_)))), ⟨_, rfl⟩⟩
      exact dsp3 rfl (dsp4 rfl (getv_ok rfl) (getv_ok rfl) (getv_ok rfl)) rfl
    | value e1 e2 e3 e4 e5 e6 =>
      cases e1
      rw [hc] at e2; cases e2
      rw [hf] at e3; cases e3
      exact (later e4 e5).1 e6
    | told e1 e2 e3 e4 e5 e6 =>
      cases e1
      rw [hc] at e2; cases e2
      rw [hf] at e3; cases e3
      exact (later e4 e5).2 e6
end
end K18

end
/-! ## K18l -/
section
namespace K18
variable [Fx.Tabl]
open PySem Fx
open L2 (atI ixN Key)
/-! ### drop, on both sides -/
def unlD (i : Int) (p : (Str × D) × D) : D := if (isStr p.1.2 && eqP p.2 (.int i)) = true then .non else p.2
def unl (i : Int) (f : List (Str × D)) (vs : List D) : List D := (f.zip vs).map (unlD i)
abbrev dr1 (sc : List Form) (i : Int) (o : Ob) : Ob := (o.1, o.2.1, unl i ((formOf sc o.2.1).getD []) o.2.2)
def dropO (sc : List Form) (i : Int) (os : List Ob) : List Ob := (os.filter fun o => !((o.1 : Int) == i)).map (dr1 sc i)
inductive DV (sc : List Form) (lim : Nat) (os : List Ob) (n : D) : Oc → Prop
  | obj : memO os n = none → DV sc lim os n (.obj n)
  | told {i : Int} {c : Str} : n = .int i → clsAt os i = some c → DV sc lim os n (.told (houseD sc lim (dropO sc i os)))
theorem KindOk.g {kind : D} (h : KindOk kind) : gd 1000 kind = true := by
  rcases h with hk | ⟨c, hc, rfl⟩
  · exact (ranges_ok _ hk).1.g
  · exact gd_mono (Nat.zero_le _) _ (cls5_ok c hc).1
theorem eqF {v : D} {i : Int} {n : Nat} (S : Store) (hv : gd n v = true) (hf : flatP v = true) : eqD v (.int i) S = .ok (.bl (eqP v (.int i))) S := eqD_eq (m := i.natAbs) hv (by simp [gd]) (by rw [flat_dep hf]; decide) (by show 0 ≤ 64; decide)
section
variable {sc : List Form} {lim : Nat} {os : List Ob}
theorem dv (h : HouseOk sc lim os) (n : D) : ∃ o, DV sc lim os n o := by
  cases e : memO os n with
  | none => exact ⟨_, .obj e⟩
  | some c =>
    obtain ⟨i, rfl⟩ : ∃ i, n = .int i := by
      cases n <;> first
        | exact ⟨_, rfl⟩
        | cases e
    exact ⟨_, .told rfl e⟩
theorem unlinked_ok {n : Nat} {f : List (Str × D)} {vs : List D} {i : Int} (S : Store) (hk : KOk f) (hv : ∀ v ∈ vs, gd n v = true ∧ flatP v = true) : g_unlinked [.tup (f.map row), .tup vs, .int i] S = .ok (.tup (unl i f vs)) S := by
  let env : Fx.Env := [some (.tup (f.map row)), some (.tup vs), some (.int i), none, none, none]
  have it : itz (cns (getv 0) (cns (getv 1) (fun _ => pur []))) env S = .ok ((f.zip vs).map fun p => pairD (row p.1) p.2) S := by
    rw [← zip_maps]; rfl
  have zl : (f.zip vs).length ≤ 300000 := by
    rw [List.length_zip]; have := hk.1; omega
  have c := cmp_map (vs := [5, 3, 4]) (t := toTup (toCons (toTup (toCons (toN 3) (toCons (toN 4) toNil))) (toCons (toN 5) toNil))) (el := (iteV (andB (tst (cal (cns (getv 4) (fun _ => pur [])) g_is_link)) (tst (bin eqD (getv 5) (getv 2)))) (fun _ => pur .non) (getv 5))) (env := env) (fun p : (Str × D) × D => pairD (row p.1) p.2) (unlD i) (f.zip vs) it (fun q hq => by
    have hz := List.of_mem_zip (a := q.1) (b := q.2) (by simpa using hq)
    let env1 : Fx.Env := [some (.tup (f.map row)), some (.tup vs), some (.int i), some (.str q.1.1), some q.1.2, some q.2]
    refine ⟨env1, rfl, ?_⟩
    have gk := (hk.2.1 _ hz.1).g
    have lk : g_is_link [q.1.2] S = .ok (.bl (isStr q.1.2)) S := body_rt (b := b_is_link) rfl (ret_ok (isi_str (i := 0) gk rfl))
    have c0 := tst_ok ((cal1_ok (g := g_is_link) (getv_ok (i := 4) (env := env1) (S := S) rfl)).trans lk)
    have c1 := tst_ok ((bin_ok (g := eqD) (getv_ok (i := 5) (env := env1) (S := S) rfl) (getv_ok (i := 2) rfl)).trans (eqF (i := i) S (hv _ hz.2).1 (hv _ hz.2).2))
    unfold unlD
    cases e : isStr q.1.2 with
    | false =>
      rw [e] at c0
      rw [Bool.false_and, if_neg (by decide)]
      exact (ite_f (and_ff c0)).trans (getv_ok rfl)
    | true =>
      rw [e] at c0
      rw [Bool.true_and]
      cases e1 : eqP q.2 (.int i) with
      | false =>
        rw [e1] at c1
        rw [if_neg (by decide)]
        exact (ite_f ((and_tt c0).trans c1)).trans (getv_ok rfl)
      | true =>
        rw [e1] at c1
        rw [if_pos rfl]
        exact (ite_t ((and_tt c0).trans c1)).trans rfl) zl
  refine body_rt (b := b_unlinked) rfl (ret_ok ((cal1_ok (g := tupleD) c).trans (tup_lst (sz _ ?_))))
  rw [List.length_map]; exact zl
theorem dropped_ok {n : D} {o : Oc} {m : Nat} (S : Store) (h : HouseOk sc lim os) (hn : gd m n = true) (w : DV sc lim os n o) : Ends (g_dropped [houseD sc lim os, n]) S o := by
  let H := houseD sc lim os
  let env0 : Fx.Env := ent 11 [H, n]
  have cE := cal2_ok (g := g_check_number) (f1 := getv 0) (f2 := getv 1) (env := env0) (S := S) (getv_ok rfl) (getv_ok rfl)
  cases w with
  | obj hm =>
    obtain ⟨S', hb, hA⟩ := ck_bad S h hn hm
    exact ⟨S', body_ex (b := b_dropped) (env := env0) rfl (seq_ex (drop_ex' (cE.trans hb))), hA⟩
  | told e1 hc =>
    subst e1
    rename_i i c
    let S1 : Store := S ++ [some (.dct (os.map ckv))]
    have s1 := drop_ok' (cE.trans (ck_good S h hc))
    let env1 : Fx.Env := [some H, some (.int i), some (.tup (sc.map frow)), some (.int (lim : Nat)), some (.tup (os.map obD)), none, none, none, none, none, none]
    have a1 : asg (getv 0) (toTup (toCons (toN 2) (toCons (toN 3) (toCons (toN 4) toNil)))) env0 S1 = .ok (.nx env1) S1 := rfl
    let S2 : Store := S1 ++ [some (.dct (sc.map fkv))]
    have hS2 : S2[S1.length]? = some (some (.dct (sc.map fkv))) := by simp [S2]
    have hn5 : ((([] : List (Key × D)) ++ sc.map fkv).map (·.1)).Nodup := by
      rw [List.nil_append, List.map_map]
      have := h.s.nd
      unfold List.Nodup at this ⊢
      rw [List.pairwise_map] at this ⊢
      exact this.imp fun {a b} hab e => hab (by injection e)
    have sl : sc.length ≤ 3 := by have := h.s.n.length_le; rw [List.length_map] at this; exact this
    have it5 : itf (getv 2) env1 S1 = .ok (sc.map frow) S1 := rfl
    have c5 := compD_map (S := S1) (t := toTup (toCons (toN 6) (toCons (toN 7) toNil))) (kx := getv 6) (vx := getv 7) (env0 := wipeE env1 [6, 7]) frow fkv (fun f => .str f.1) sc [] (fun f hf => ⟨_, rfl, getv_ok rfl, getv_ok rfl, rfl⟩) (by simp; omega) hn5
    rw [List.nil_append] at c5
    let env2 : Fx.Env := [some H, some (.int i), some (.tup (sc.map frow)), some (.int (lim : Nat)), some (.tup (os.map obD)), some (.obj S1.length), none, none, none, none, none]
    have s5 : Fx.set 5 (cmd [6, 7] (itf (getv 2)) (toTup (toCons (toN 6) (toCons (toN 7) toNil))) (fun _ => pur true) (getv 6) (getv 7)) env1 S1 = .ok (.nx env2) S2 := set_ok (by
      simp only [cmd, bd, it5]
      exact c5)
    have it8 : itf (getv 4) env2 S2 = .ok (os.map obD) S2 := rfl
    have c8 := cmp_mapS (vs := [9, 6, 10]) (t := toTup (toCons (toN 9) (toCons (toN 6) (toCons (toN 10) toNil)))) (c := tst (bin neD (getv 9) (getv 1))) (el := (dsp mkT (cns (getv 9) (cns (getv 6) (cns (cal (cns (bin dgetD (getv 5) (getv 6)) (cns (getv 10) (cns (getv 1) (fun _ => pur [])))) g_unlinked) (fun _ => pur [])))))) (env := env2) obD (fun o => obD (dr1 sc i o)) (fun o => !((o.1 : Int) == i)) os it8 (fun o ho => by
      let env3 : Fx.Env := [some H, some (.int i), some (.tup (sc.map frow)), some (.int (lim : Nat)), some (.tup (os.map obD)), some (.obj S1.length), some (.str o.2.1), none, none, some (.int (o.1 : Nat)), some (.tup o.2.2)]
      refine ⟨env3, rfl, tst_ok ((bin_ok (g := neD) (getv_ok rfl) (getv_ok rfl)).trans (neD_int _ _ S2)), fun _ => ?_⟩
      obtain ⟨f, hf⟩ := Option.isSome_iff_exists.mp (formOf_isSome (h.c o ho))
      have g5 : bin dgetD (getv 5) (getv 6) env3 S2 = .ok (.tup (f.map row)) S2 := by
        refine (bin_ok (g := dgetD) (getv_ok (i := 5) rfl) (getv_ok (i := 6) rfl)).trans ?_
        simp only [dgetD, objK, bd, hS2, keyOf, opt, pur, valD_fkv, hf, Option.map_some]
      have u := (cal3_ok (g := g_unlinked) g5 (getv_ok (i := 10) rfl) (getv_ok (i := 1) rfl)).trans (unlinked_ok (i := i) S2 (h.kok hf) (n := 1000) fun v hv => (h.fl o ho v hv).symm)
      refine (dsp3 (getv_ok rfl) (getv_ok rfl) u).trans ?_
      simp only [obD, dr1, hf, Option.getD_some]) (by have := h.len; omega)
    have s8 := set_ok (i := 8) c8
    refine ⟨S2, body_rt (b := b_dropped) rfl ((seq_nx s1).trans ((seq_nx a1).trans ((seq_nx s5).trans ((seq_nx s8).trans (ret_ok ?_))))), (After.add ⟨_, rfl⟩ _)⟩
    refine dsp3 (getv_ok rfl) (getv_ok rfl) ((cal1_ok (g := tupleD) (getv_ok (i := 8) rfl)).trans ?_)
    refine (tup_lst (sz _ (by rw [List.length_map]; have := h.len; have := List.length_filter_le (fun o : Ob => !((o.1 : Int) == i)) os; omega))).trans ?_
    rw [dropO, List.map_map]; rfl
/-! the law -/
def bUn : Fx.Env → MS := (Fx.drop (met (getv 6) (cns (iteV (andB (tst (isi "str" (getv 8))) (tst (bin eqD (getv 9) (getv 1)))) (fun _ => pur .non) (getv 9)) (fun _ => pur [])) appD))
def tUn : D → Fx.Env → Option Fx.Env := (toTup (toCons (toTup (toCons (toN 7) (toCons (toN 8) toNil))) (toCons (toN 9) toNil)))
theorem un_loop {H a2 a3 a4 a5 : D} {i : Int} {n : Nat} {P L : Store} : ∀ (ps : List ((Str × D) × D)) (acc : List D) (z7 z8 z9 : Option D), (∀ p ∈ ps, KindOk p.1.2 ∧ gd n p.2 = true ∧ flatP p.2 = true) → acc.length + ps.length ≤ 1000 →
    ∃ y7 y8 y9, loop tUn bUn (ps.map fun p => pairD (row p.1) p.2) [some H, some (.int i), some a2, some a3, some a4, some a5, some (.obj P.length), z7, z8, z9] (P ++ some (.lst acc) :: L) =
      .ok (.nx [some H, some (.int i), some a2, some a3, some a4, some a5, some (.obj P.length), y7, y8, y9]) (P ++ some (.lst (acc ++ ps.map (unlD i))) :: L)
  | [], acc, z7, z8, z9, _, _ => ⟨z7, z8, z9, by simp [loop]⟩
  | p :: ps, acc, z7, z8, z9, hp, hl => by
    rw [List.length_cons] at hl
    let S : Store := P ++ some (.lst acc) :: L
    let env0 : Fx.Env := [some H, some (.int i), some a2, some a3, some a4, some a5, some (.obj P.length), some (.str p.1.1), some p.1.2, some p.2]
    have hs : tUn (pairD (row p.1) p.2) [some H, some (.int i), some a2, some a3, some a4, some a5, some (.obj P.length), z7, z8, z9] = some env0 := rfl
    obtain ⟨hk, hg, hf⟩ := hp p (by simp)
    have c0 := tst_ok (isi_str (i := 8) (env := env0) (S := S) hk.g rfl)
    have c1 := tst_ok ((bin_ok (g := eqD) (getv_ok (i := 9) (env := env0) (S := S) rfl) (getv_ok (i := 1) rfl)).trans (eqF (i := i) S hg hf))
    have el : iteV (andB (tst (isi "str" (getv 8))) (tst (bin eqD (getv 9) (getv 1)))) (fun _ => pur .non) (getv 9) env0 S = .ok (unlD i p) S := by
      unfold unlD
      cases e : isStr p.1.2 with
      | false =>
        rw [e] at c0
        rw [Bool.false_and, if_neg (by decide)]
        exact (ite_f (and_ff c0)).trans (getv_ok rfl)
      | true =>
        rw [e] at c0
        rw [Bool.true_and]
        cases e1 : eqP p.2 (.int i) with
        | false =>
          rw [e1] at c1
          rw [if_neg (by decide)]
          exact (ite_f ((and_tt c0).trans c1)).trans (getv_ok rfl)
        | true =>
          rw [e1] at c1
          rw [if_pos rfl]
          exact (ite_t ((and_tt c0).trans c1)).trans rfl
    have st : bUn env0 (P ++ some (.lst acc) :: L) = .ok (.nx env0) (P ++ some (.lst (acc ++ [unlD i p])) :: L) := app_mid (i := 6) (env := env0) rfl el (by omega)
    obtain ⟨y7, y8, y9, ih⟩ := un_loop (H := H) (a2 := a2) (a3 := a3) (a4 := a4) (a5 := a5) (i := i) (n := n) (P := P) (L := L) ps (acc ++ [unlD i p]) (some (.str p.1.1)) (some p.1.2) (some p.2) (fun q hq => hp q (List.mem_cons_of_mem _ hq)) (by rw [List.length_append, List.length_singleton]; omega)
    refine ⟨y7, y8, y9, ?_⟩
    rw [List.map_cons]
    unfold loop
    simp only [hs, st]
    rw [ih, List.append_assoc]; rfl
def bDr : Fx.Env → MS := (seqS (Fx.set 6 (dsp mkN (fun _ => pur []))) (seqS (forS (itz (cns (bin dgetD (cal (cns (bin ixD (getv 0) (fun _ => pur (.int 0))) (fun _ => pur [])) dictD) (getv 4)) (cns (getv 5) (fun _ => pur [])))) (toTup (toCons (toTup (toCons (toN 7) (toCons (toN 8) toNil))) (toCons (toN 9) toNil))) (Fx.drop (met (getv 6) (cns (iteV (andB (tst (isi "str" (getv 8))) (tst (bin eqD (getv 9) (getv 1)))) (fun _ => pur .non) (getv 9)) (fun _ => pur [])) appD))) (frzV 6 (ifS (tst (bin neD (getv 3) (getv 1))) (Fx.drop (met (getv 2) (cns (dsp mkT (cns (getv 3) (cns (getv 4) (cns (cal (cns (getv 6) (fun _ => pur [])) tupleD) (fun _ => pur []))))) (fun _ => pur [])) appD)) pass))))
theorem dr_loop {i : Int} {P : Store} (h : HouseOk sc lim os) : ∀ (xs : List Ob) (acc : List D) (z3 z4 z5 z6 z7 z8 z9 : Option D) (L : Store), (∀ o ∈ xs, o ∈ os) → acc.length + xs.length ≤ 1000 →
    ∃ y3 y4 y5 y6 y7 y8 y9 L', loop (toTup (toCons (toN 3) (toCons (toN 4) (toCons (toN 5) toNil)))) bDr (xs.map obD) [some (houseD sc lim os), some (.int i), some (.obj P.length), z3, z4, z5, z6, z7, z8, z9] (P ++ some (.lst acc) :: L) =
      .ok (.nx [some (houseD sc lim os), some (.int i), some (.obj P.length), y3, y4, y5, y6, y7, y8, y9]) (P ++ some (.lst (acc ++ (xs.filter fun o => !((o.1 : Int) == i)).map fun o => obD (dr1 sc i o))) :: L')
  | [], acc, z3, z4, z5, z6, z7, z8, z9, L, _, _ => ⟨z3, z4, z5, z6, z7, z8, z9, L, by simp [loop]⟩
  | o :: xs, acc, z3, z4, z5, z6, z7, z8, z9, L, hx, hl => by
    rw [List.length_cons] at hl
    let H := houseD sc lim os
    have ho := hx o (by simp)
    obtain ⟨f, hf⟩ := Option.isSome_iff_exists.mp (formOf_isSome (h.c o ho))
    have hk := h.kok hf
    let T0 : Store := P ++ some (.lst acc) :: L
    let env0 : Fx.Env := [some H, some (.int i), some (.obj P.length), some (.int (o.1 : Nat)), some (.str o.2.1), some (.tup o.2.2), z6, z7, z8, z9]
    have hs : toTup (toCons (toN 3) (toCons (toN 4) (toCons (toN 5) toNil))) (obD o) [some (houseD sc lim os), some (.int i), some (.obj P.length), z3, z4, z5, z6, z7, z8, z9] = some env0 := rfl
    let env1 : Fx.Env := [some H, some (.int i), some (.obj P.length), some (.int (o.1 : Nat)), some (.str o.2.1), some (.tup o.2.2), some (.obj T0.length), z7, z8, z9]
    let T1 : Store := T0 ++ [some (OD.lst [])]
    have s6 : Fx.set 6 (dsp mkN (fun _ => pur [])) env0 T0 = .ok (.nx env1) T1 := set_ok (mkN_ok rfl (by decide))
    have dg := dget_sc (f1 := bin ixD (getv 0) (fun _ => pur (.int 0))) (f2 := getv 4) (env := env1) (S := T1) h.s.nd rfl (fun T => getv_ok rfl) hf
    let D0 : Option OD := some (.dct (fkvs sc))
    have it : (itz (cns (bin dgetD (cal (cns (bin ixD (getv 0) (fun _ => pur (.int 0))) (fun _ => pur [])) dictD) (getv 4)) (cns (getv 5) (fun _ => pur [])))) env1 T1 = .ok ((f.zip o.2.2).map fun p => pairD (row p.1) p.2) (T1 ++ [D0]) := by
      have g5 : getv 5 env1 (T1 ++ [D0]) = .ok (.tup o.2.2) (T1 ++ [D0]) := getv_ok rfl
      simp only [itz, bd, cns, dg, g5, pur]
      rw [← zip_maps]; rfl
    have e1 : T1 ++ [D0] = T0 ++ some (.lst []) :: [D0] := by simp [T1]
    obtain ⟨y7, y8, y9, lp⟩ := un_loop (H := H) (a2 := .obj P.length) (a3 := .int (o.1 : Nat)) (a4 := .str o.2.1) (a5 := .tup o.2.2) (i := i) (n := 1000) (P := T0) (L := [D0]) (f.zip o.2.2) [] z7 z8 z9 (fun p hp => by
      have hz := List.of_mem_zip (a := p.1) (b := p.2) (by simpa using hp)
      exact ⟨hk.2.1 _ hz.1, (h.fl o ho _ hz.2).symm⟩) (by rw [List.length_zip]; have := hk.1; simp; omega)
    rw [List.nil_append, ← e1] at lp
    let env2 : Fx.Env := [some H, some (.int i), some (.obj P.length), some (.int (o.1 : Nat)), some (.str o.2.1), some (.tup o.2.2), some (.obj T0.length), y7, y8, y9]
    let env3 : Fx.Env := [some H, some (.int i), some (.obj P.length), some (.int (o.1 : Nat)), some (.str o.2.1), some (.tup o.2.2), some (.lst (unl i f o.2.2)), y7, y8, y9]
    let L2 : Store := L ++ none :: [D0]
    let T2 : Store := P ++ some (.lst acc) :: L2
    have e2 : T0 ++ none :: [D0] = T2 := by simp [T0, T2, L2]
    have q := tst_ok ((bin_ok (g := neD) (getv_ok (i := 3) (env := env3) (S := T2) rfl) (getv_ok (i := 1) rfl)).trans (neD_int _ _ T2))
    have pre : ∀ {x : RsS}, (ifS (tst (bin neD (getv 3) (getv 1))) (Fx.drop (met (getv 2) (cns (dsp mkT (cns (getv 3) (cns (getv 4) (cns (cal (cns (getv 6) (fun _ => pur [])) tupleD) (fun _ => pur []))))) (fun _ => pur [])) appD)) pass) env3 T2 = x → bDr env0 T0 = x := fun hx => (seq_nx s6).trans ((seq_nx ((for_ok it).trans lp)).trans ((frz_mid (i := 6) (env := env2) rfl).trans (by rw [e2]; exact hx)))
    rw [List.map_cons]
    unfold loop
    cases hb : ((o.1 : Int) == i) with
    | true =>
      rw [hb] at q
      have st : bDr env0 (P ++ some (.lst acc) :: L) = .ok (.nx env3) T2 := pre ((ifS_f q).trans rfl)
      obtain ⟨w3, w4, w5, w6, w7, w8, w9, L', ih⟩ := dr_loop (i := i) (P := P) h xs acc (some (.int (o.1 : Nat))) (some (.str o.2.1)) (some (.tup o.2.2)) (some (.lst (unl i f o.2.2))) y7 y8 y9 L2 (fun o' h' => hx o' (List.mem_cons_of_mem _ h')) (by omega)
      refine ⟨w3, w4, w5, w6, w7, w8, w9, L', ?_⟩
      simp only [hs, st]
      rw [ih]
      simp [List.filter_cons, hb]
    | false =>
      rw [hb] at q
      have tp : cal (cns (getv 6) (fun _ => pur [])) tupleD env3 T2 = .ok (.tup (unl i f o.2.2)) T2 := (cal1_ok (g := tupleD) (getv_ok (i := 6) rfl)).trans (tup_lst (sz _ (by rw [unl, List.length_map, List.length_zip]; have := hk.1; omega)))
      have el : dsp mkT (cns (getv 3) (cns (getv 4) (cns (cal (cns (getv 6) (fun _ => pur [])) tupleD) (fun _ => pur [])))) env3 T2 = .ok (obD (dr1 sc i o)) T2 := by
        refine (dsp3 (getv_ok rfl) (getv_ok rfl) tp).trans ?_
        simp only [obD, dr1, hf, Option.getD_some]
      have ap := app_mid (i := 2) (env := env3) (P := P) (L := L2) (L' := L2) (xs0 := acc) (xs := acc) rfl el (by omega)
      have st : bDr env0 (P ++ some (.lst acc) :: L) = .ok (.nx env3) (P ++ some (.lst (acc ++ [obD (dr1 sc i o)])) :: L2) := pre ((ifS_t q).trans ap)
      obtain ⟨w3, w4, w5, w6, w7, w8, w9, L', ih⟩ := dr_loop (i := i) (P := P) h xs (acc ++ [obD (dr1 sc i o)]) (some (.int (o.1 : Nat))) (some (.str o.2.1)) (some (.tup o.2.2)) (some (.lst (unl i f o.2.2))) y7 y8 y9 L2 (fun o' h' => hx o' (List.mem_cons_of_mem _ h')) (by rw [List.length_append, List.length_singleton]; omega)
      refine ⟨w3, w4, w5, w6, w7, w8, w9, L', ?_⟩
      simp only [hs, st]
      rw [ih]
      simp [List.filter_cons, hb]
theorem dropped_due_ok {n : D} {o : Oc} (S : Store) (h : HouseOk sc lim os) (hn : n ∈ numsL) (w : DV sc lim os n o) : ∃ S', g_law_dropped_due [houseD sc lim os, n] S = .ok o.due S' ∧ After S S' := by
  let H := houseD sc lim os
  let env0 : Fx.Env := ent 10 [H, n]
  have c0 := notB_ok (tst_ok ((cal2_ok (g := g_law_is_member) (f1 := getv 0) (f2 := getv 1) (env := env0) (S := S) (getv_ok rfl) (getv_ok rfl)).trans (is_member_ok S h hn)))
  cases w with
  | obj hm =>
    rw [hm] at c0
    exact ⟨S, body_rt (b := b_law_dropped_due) rfl (seq_rt ((ifS_t c0).trans (ret_ok (dsp2 rfl (getv_ok rfl))))), .refl S⟩
  | told e1 hc =>
    subst e1
    rename_i i c
    have hc' : memO os (.int i) = some c := hc
    rw [hc'] at c0
    let S1 : Store := S ++ [some (OD.lst [])]
    let env1 : Fx.Env := [some H, some (.int i), some (.obj S.length), none, none, none, none, none, none, none]
    have s2 : Fx.set 2 (dsp mkN (fun _ => pur [])) env0 S = .ok (.nx env1) S1 := set_ok (mkN_ok rfl (by decide))
    obtain ⟨y3, y4, y5, y6, y7, y8, y9, L', lp⟩ := dr_loop (i := i) (P := S) h os [] none none none none none none none [] (fun o ho => ho) (by have := h.len; simp; omega)
    rw [List.nil_append] at lp
    have it : itf (bin ixD (getv 0) (fun _ => pur (.int 2))) env1 S1 = .ok (os.map obD) S1 := rfl
    let T : Store := S ++ none :: L'
    refine ⟨T, body_rt (b := b_law_dropped_due) rfl ((if_no c0).trans ((seq_nx s2).trans ((seq_nx ((for_ok it).trans lp)).trans ((frz_mid rfl).trans (ret_ok ?_))))), ⟨_, rfl⟩⟩
    refine dsp2 rfl (dsp3 (S1 := T) (S2 := T) rfl rfl ((cal1_ok (g := tupleD) (getv_ok (i := 2) rfl)).trans ?_))
    refine (tup_lst (sz _ (by rw [List.length_map]; have := h.len; have := List.length_filter_le (fun o : Ob => !((o.1 : Int) == i)) os; omega))).trans ?_
    rw [dropO, List.map_map]; rfl
end
end K18

end
/-! ## K18m -/
section
namespace K18
variable [Fx.Tabl]
open PySem Fx
open L2 (atI ixN Key)
/-! ### the drawn house -/
theorem comp_relF {t : D → Fx.Env → Option Fx.Env} {c : Fx.Env → M Bool} {el : Fx.Env → M D} {env0 : Fx.Env} (Iv : Store → Prop) (Rl : D → D → Prop) : ∀ (ds acc : List D) (S : Store), acc.length + ds.length ≤ sizeLine → Iv S →
    (∀ d ∈ ds, ∀ S, Iv S → ∃ env1 b S1, t d env0 = some env1 ∧ c env1 S = .ok b S1 ∧ Iv S1 ∧ (b = true → ∃ y S2, el env1 S1 = .ok y S2 ∧ Rl d y ∧ Iv S2)) →
    ∃ (zs : List (D × D)) (S' : Store), compL mkL t c el env0 ds acc S = .ok (.lst (acc ++ zs.map (·.2))) S' ∧ (zs.map (·.1)).Sublist ds ∧ (∀ z ∈ zs, Rl z.1 z.2) ∧ Iv S'
  | [], acc, S, hl, h, _ => by
    refine ⟨[], S, ?_, List.Sublist.slnil, by simp, h⟩
    unfold compL
    rw [mkL_ok (by simpa using hl)]; simp
  | d :: ds, acc, S, hl, h, step => by
    obtain ⟨env1, b, S1, h1, h2, h3, h4⟩ := step d (by simp) S h
    cases b with
    | false =>
      obtain ⟨zs, S', k1, k2, k3, k4⟩ := comp_relF Iv Rl ds acc S1 (by simp at hl ⊢; omega) h3 fun d' hd' => step d' (List.mem_cons_of_mem _ hd')
      refine ⟨zs, S', ?_, k2.cons _, k3, k4⟩
      unfold compL
      simp only [h1, bdN, h2]
      rw [if_neg (by simp)]
      exact k1
    | true =>
      obtain ⟨y, S2, e1, e2, e3⟩ := h4 rfl
      obtain ⟨zs, S', k1, k2, k3, k4⟩ := comp_relF Iv Rl ds (acc ++ [y]) S2 (by simp at hl ⊢; omega) e3 fun d' hd' => step d' (List.mem_cons_of_mem _ hd')
      refine ⟨(d, y) :: zs, S', ?_, by rw [List.map_cons]; exact k2.cons_cons d, fun z hz => (List.mem_cons.mp hz).elim (fun e => e ▸ e2) (k3 z), k4⟩
      unfold compL
      have hl2 : acc.length < sizeLine := by simp at hl; omega
      simp only [h1, bdN, h2, if_true, e1, if_pos hl2, k1, List.map_cons, List.append_assoc, List.singleton_append]
abbrev Mb : Type := Nat × Str
abbrev memP (m : Mb) : D := .tup [.int (m.1 : Nat), .str m.2]
structure MbOk (ms : List Mb) : Prop where
  c : ∀ m ∈ ms, m.2 ∈ cls5 ∧ m.1 ≤ 1000
  l : ms.length ≤ 1000
/-- a drawn value -/
structure Vl (d : D) : Prop where
  f : flatP d = true
  g : gd 1000 d = true
  w : wgt d ≤ 30
theorem Vl.int {i : Int} (h : i.natAbs ≤ 1000) : Vl (.int i) := ⟨rfl, by simp [gd, h], (In.int (N := 1000) h (by decide) 30 0 (Nat.le_refl _)).w⟩
theorem Vl.non : Vl .non := ⟨rfl, rfl, by decide +kernel⟩
theorem addL {xs ys : List D} {S : Store} (h : xs.length + ys.length ≤ 3000) : addD mkL (.lst xs) (.lst ys) S = .ok (.lst (xs ++ ys)) S := by
  show catL mkL (.lst xs) (.lst ys) S = _
  simp only [catL, seqL, seqM, bd, pur]
  exact mkL_ok (sz _ (by rw [List.length_append]; omega))
theorem fitting_ok {kind : D} {ms : List Mb} {S R : Store} (hk : KindOk kind) (hm : MbOk ms) (hF : Fd S R) : ∃ d S', g_law_fitting [.obj 0, kind, .lst (ms.map memP)] S = .ok d S' ∧ Vl d ∧ Fd S' R := by
  let env : Fx.Env := [some (.obj 0), some kind, some (.lst (ms.map memP)), none, none]
  have c0 := tst_ok (isi_tup (i := 1) (env := env) (S := S) hk.g rfl)
  rcases hk with hk | ⟨c, hc, rfl⟩
  · obtain ⟨hi, a, b, rfl, hab⟩ := ranges_ok _ hk
    have hg := gd_tup2 hi.g
    have ha : a.natAbs ≤ 1000 := by simpa [gd] using hg.1
    have hb : b.natAbs ≤ 1000 := by simpa [gd] using hg.2
    have e : ((b - a + 1).toNat : Int) = b - a + 1 := by omega
    have hf : bin (addD mkL) (bin subD (bin ixD (getv 1) (fun _ => pur (.int 1))) (bin ixD (getv 1) (fun _ => pur (.int 0)))) (fun _ => pur (.int 1)) env S = .ok (.int ((b - a + 1).toNat : Nat)) S := by
      rw [e]; rfl
    obtain ⟨r, S', hr, hF', e1⟩ := drawn (i := 0) (env := env) rfl hf (by omega) (by omega) hF
    refine ⟨.int (a + r), S', body_rt (b := b_law_fitting) rfl (seq_rt ((ifS_t c0).trans (ret_okS ?_))), Vl.int (by omega), hF'⟩
    exact (bin_okS (g := addD mkL) (f1 := bin ixD (getv 1) (fun _ => pur (.int 0))) (a := .int a) (S1 := S) rfl e1).trans rfl
  · have it : itf (getv 2) env S = .ok (ms.map memP) S := rfl
    have cm := cmp_mapS (vs := [3, 4]) (t := toTup (toCons (toN 3) (toCons (toN 4) toNil))) (c := tst (bin eqD (getv 4) (getv 1))) (el := getv 3) (env := env) memP (fun m : Mb => D.int (m.1 : Nat)) (fun m => decide (m.2 = c)) ms it (fun m hmm => by
      refine ⟨[some (.obj 0), some (.str c), some (.lst (ms.map memP)), some (.int (m.1 : Nat)), some (.str m.2)], rfl, ?_, fun _ => getv_ok rfl⟩
      exact tst_ok ((bin_ok (g := eqD) (getv_ok rfl) (getv_ok rfl)).trans (eqD_str (cls5_ok _ (hm.c m hmm).1).1 (cls5_ok _ hc).1))) (by have := hm.l; omega)
    let A : List D := (ms.filter fun m => decide (m.2 = c)).map fun m : Mb => D.int (m.1 : Nat)
    have hA : A.length ≤ 1000 := by rw [List.length_map]; exact Nat.le_trans (List.length_filter_le _ _) hm.l
    have hx : (bin (addD mkL) (dsp mkL (cns (fun _ => pur .non) (fun _ => pur []))) (cmp [3, 4] mkL (itf (getv 2)) (toTup (toCons (toN 3) (toCons (toN 4) toNil))) (tst (bin eqD (getv 4) (getv 1))) (getv 3))) env S = .ok (.lst ([.non] ++ A)) S := (bin_ok (g := addD mkL) (f1 := dsp mkL (cns (fun _ => pur .non) (fun _ => pur []))) (a := .lst [.non]) rfl cm).trans (addL (by show 1 + A.length ≤ 3000; omega))
    obtain ⟨d, S', hd, hF', e1⟩ := anyn (i := 0) (env := env) rfl hx (by simp) (by rw [List.length_append, List.length_singleton]; omega) hF
    refine ⟨d, S', body_rt (b := b_law_fitting) rfl ((if_no c0).trans (ret_okS e1)), ?_, hF'⟩
    rcases List.mem_append.mp hd with h | h
    · rw [List.mem_singleton.mp h]; exact Vl.non
    · obtain ⟨m, hm1, rfl⟩ := List.mem_map.mp h
      have := (hm.c m (List.mem_filter.mp hm1).1).2
      exact Vl.int (by omega)
theorem values_ok {f : List (Str × D)} {ms : List Mb} {S R : Store} (hk : KOk f) (hm : MbOk ms) (hF : Fd S R) : ∃ vs S', g_law_values [.obj 0, .tup (f.map row), .lst (ms.map memP)] S = .ok (.tup vs) S' ∧ vs.length = f.length ∧ (∀ v ∈ vs, Vl v) ∧ Fd S' R := by
  let env : Fx.Env := [some (.obj 0), some (.tup (f.map row)), some (.lst (ms.map memP)), none, none]
  obtain ⟨zs, S', k1, k2, k3, k4⟩ := comp_rel (t := toTup (toCons (toN 3) (toCons (toN 4) toNil))) (el := (cal (cns (getv 0) (cns (getv 4) (cns (getv 2) (fun _ => pur [])))) g_law_fitting)) (env0 := env) (fun T => Fd T R) (fun _ y => Vl y) (f.map row) [] S (sz _ (by have := hk.1; simp; omega)) hF (by
    intro d hd T hT
    obtain ⟨q, hq, rfl⟩ := List.mem_map.mp hd
    obtain ⟨y, T', e1, e2, e3⟩ := fitting_ok (hk.2.1 q hq) hm hT
    exact ⟨[some (.obj 0), some (.tup (f.map row)), some (.lst (ms.map memP)), some (.str q.1), some q.2], rfl, y, T', (cal3_ok (getv_ok rfl) (getv_ok rfl) (getv_ok rfl)).trans e1, e2, e3⟩)
  have zl : zs.length = f.length := by have := congrArg List.length k2; rw [List.length_map, List.length_map] at this; exact this
  have cm : cmp [3, 4] mkL (itf (getv 1)) (toTup (toCons (toN 3) (toCons (toN 4) toNil))) (fun _ => pur true) (cal (cns (getv 0) (cns (getv 4) (cns (getv 2) (fun _ => pur [])))) g_law_fitting) env S = .ok (.lst (zs.map (·.2))) S' := k1
  refine ⟨zs.map (·.2), S', body_rt (b := b_law_values) rfl (ret_okS ((cal1_okS cm).trans (tup_lst (sz _ ?_)))), by rw [List.length_map, zl], fun v hv => ?_, k4⟩
  · rw [List.length_map, zl]; have := hk.1; omega
  · obtain ⟨z, hz, rfl⟩ := List.mem_map.mp hv
    exact k3 z hz
theorem cons_sub {α : Type} {a b : α} {l m : List α} (h : (a :: l).Sublist (b :: m)) : (a :: l).Sublist m ∨ (a = b ∧ l.Sublist m) := by
  generalize e1 : a :: l = x at h
  generalize e2 : b :: m = y at h
  cases h with
  | slnil => cases e1
  | cons c h => cases e2; exact .inl (e1 ▸ h)
  | cons_cons c h => cases e1; cases e2; exact .inr ⟨rfl, h⟩
theorem members_of {P : D → Prop} {ns : List Str} : ∀ {zs : List (D × D)} {ks : List Nat}, (zs.map (·.1)).Sublist (ks.map fun k : Nat => D.int k) → (∀ z ∈ zs, ∃ c ∈ ns, z.2 = .tup [z.1, .str c]) → ∃ ms : List Mb, zs.map (·.2) = ms.map memP ∧ (ms.map (·.1)).Sublist ks ∧ ∀ m ∈ ms, m.2 ∈ ns
  | [], ks, _, _ => ⟨[], rfl, List.nil_sublist _, by simp⟩
  | z :: zs, [], h, _ => by cases h
  | z :: zs, k :: ks, h, hz => by
    rw [List.map_cons, List.map_cons] at h
    rcases cons_sub h with h | ⟨e, h⟩
    · obtain ⟨ms, h1, h2, h3⟩ := members_of (P := P) (zs := z :: zs) (ks := ks) (by rw [List.map_cons]; exact h) hz
      exact ⟨ms, h1, h2.cons _, h3⟩
    · obtain ⟨c, hc, e2⟩ := hz z (by simp)
      obtain ⟨ms, h1, h2, h3⟩ := members_of (P := P) h fun z' hz' => hz z' (List.mem_cons_of_mem _ hz')
      refine ⟨(k, c) :: ms, by rw [List.map_cons, List.map_cons, e2, h1, e], by rw [List.map_cons]; exact h2.cons_cons k, fun m hm => ?_⟩
      rcases List.mem_cons.mp hm with rfl | hm
      · exact hc
      · exact h3 m hm
end K18

end
/-! ## K18n -/
section
namespace K18
variable [Fx.Tabl]
open PySem Fx
open L2 (atI ixN Key)
theorem Sch.len3 {sc : List Form} (h : Sch sc) : sc.length ≤ 3 := by have := h.n.length_le; rw [List.length_map] at this; exact this
theorem Sch.kok {sc : List Form} (h : Sch sc) {c : Str} {f : List (Str × D)} (hf : formOf sc c = some f) : KOk f := by
  have hm := formOf_some hf
  have L := h.l _ hm
  refine ⟨L.len, fun q hq => ?_, fun q hq => L.lab hq⟩
  rcases L.k q hq with h1 | ⟨c', hc, e⟩
  · exact .inl h1
  · exact .inr ⟨c', h.cls c' hc, e⟩
theorem cmp_it {vs : List Nat} {mk : List D → M D} {it : Fx.Env → M (List D)} {t : D → Fx.Env → Option Fx.Env} {c : Fx.Env → M Bool} {el : Fx.Env → M D} {env : Fx.Env} {S S1 : Store} {ds : List D} {r : Rs D} (hit : it env S = .ok ds S1) (h : compL mk t c el (wipeE env vs) ds [] S1 = r) : cmp vs mk it t c el env S = r := by
  simp only [cmp, bd, hit]
  exact h
theorem objects_of {sc : List Form} : ∀ {zs : List (D × D)} {ms : List Mb}, zs.map (·.1) = ms.map memP → (∀ z ∈ zs, ∀ (k : Nat) (c : Str), z.1 = .tup [.int (k : Nat), .str c] → ∃ vs f, formOf sc c = some f ∧ vs.length = f.length ∧ (∀ v ∈ vs, Vl v) ∧ z.2 = obD (k, c, vs)) →
    ∃ os : List Ob, zs.map (·.2) = os.map obD ∧ os.map (fun o => (o.1, o.2.1)) = ms ∧ ∀ o ∈ os, ∃ f, formOf sc o.2.1 = some f ∧ o.2.2.length = f.length ∧ ∀ v ∈ o.2.2, Vl v
  | [], [], _, _ => ⟨[], rfl, rfl, by simp⟩
  | z :: zs, m :: ms, h, hz => by
    rw [List.map_cons, List.map_cons] at h
    injection h with h1 h2
    obtain ⟨vs, f, e1, e2, e3, e4⟩ := hz z (by simp) m.1 m.2 h1
    obtain ⟨os, k1, k2, k3⟩ := objects_of h2 fun z' hz' => hz z' (List.mem_cons_of_mem _ hz')
    refine ⟨(m.1, m.2, vs) :: os, by rw [List.map_cons, List.map_cons, e4, k1], by rw [List.map_cons, k2], fun o ho => ?_⟩
    rcases List.mem_cons.mp ho with rfl | ho
    · exact ⟨f, e1, e2, e3⟩
    · exact k3 o ho
  | [], _ :: _, h, _ => by cases h
  | _ :: _, [], h, _ => by cases h
theorem house_ok {sc : List Form} {S R : Store} (hs : Sch sc) (hF : Fd S R) : ∃ (lim : Nat) (os : List Ob) (S' R' : Store), g_law_house [.obj 0, .tup (sc.map frow), .int 6] S = .ok (houseD sc lim os) S' ∧ HouseOk sc lim os ∧ lim ≤ 6 ∧ os.length ≤ 6 ∧ (∀ o ∈ os, ∀ v ∈ o.2.2, Vl v) ∧ Fd S' R' ∧ Ext R R' := by
  let sd : D := .tup (sc.map frow)
  let ns : List Str := sc.map (·.1)
  have nl : ns.length = sc.length := List.length_map _
  have l3 := hs.len3
  let env0 : Fx.Env := ent 10 [.obj 0, sd, .int 6]
  have it0 : itf (getv 1) env0 S = .ok (sc.map frow) S := rfl
  have c3 := cmp_map (vs := [5, 6]) (t := toTup (toCons (toN 5) (toCons (toN 6) toNil))) (el := getv 5) (env := env0) frow (fun f => D.str f.1) sc it0 (fun f hf => ⟨[some (.obj 0), some sd, some (.int 6), none, none, some (.str f.1), some (.tup (f.2.map row)), none, none, none], rfl, getv_ok rfl⟩) (by omega)
  have e3 : sc.map (fun f => D.str f.1) = ns.map .str := by rw [List.map_map]; rfl
  rw [e3] at c3
  have hf7 : bin (addD mkL) (getv 2) (fun _ => pur (.int 1)) env0 S = .ok (.int ((7 : Nat) : Int)) S := rfl
  obtain ⟨r, S1, hr, hF1, e1⟩ := drawn (i := 0) (env := env0) rfl hf7 (by decide) (by decide) hF
  let env1 : Fx.Env := [some (.obj 0), some sd, some (.int 6), some (.lst (ns.map .str)), some (.int (r : Nat)), none, none, none, none, none]
  have s1 : (asg (dsp mkT (cns (cmp [5, 6] mkL (itf (getv 1)) (toTup (toCons (toN 5) (toCons (toN 6) toNil))) (fun _ => pur true) (getv 5)) (cns (cal (cns (getv 0) (cns (bin (addD mkL) (getv 2) (fun _ => pur (.int 1))) (fun _ => pur []))) g_law_draw) (fun _ => pur [])))) (toTup (toCons (toN 3) (toCons (toN 4) toNil)))) env0 S = .ok (.nx env1) S1 := by
    simp only [asg, lft, dsp2 c3 e1]; rfl
  have it7 := (itr1_len (f := getv 4) (env := env1) (S := S1) (n := r) (getv_ok rfl) (by show r ≤ 1048576; omega)).trans (congrArg (fun x => Rs.ok x S1) (rng_nat r))
  obtain ⟨zs, S2, k1, k2, k3, hF2⟩ := comp_relF (t := toN 8) (c := (tst (bin gtD (cal (cns (getv 0) (cns (fun _ => pur (.int 4)) (fun _ => pur []))) g_law_draw) (fun _ => pur (.int 0))))) (el := (dsp mkT (cns (getv 8) (cns (cal (cns (getv 0) (cns (getv 3) (fun _ => pur []))) g_law_any) (fun _ => pur []))))) (env0 := wipeE env1 [8]) (fun T => Fd T R) (fun d y => ∃ c ∈ ns, y = .tup [d, .str c]) ((List.range r).map fun k : Nat => D.int k) [] S1 (sz _ (by simp; omega)) hF1 (by
    intro d hd T hT
    let env2 : Fx.Env := [some (.obj 0), some sd, some (.int 6), some (.lst (ns.map .str)), some (.int (r : Nat)), none, none, none, some d, none]
    obtain ⟨q, T1, hq, hT1, e2⟩ := drawz (i := 0) (env := env2) (m := 4) 4 rfl rfl (by decide) (by decide) hT
    have c2 : (tst (bin gtD (cal (cns (getv 0) (cns (fun _ => pur (.int 4)) (fun _ => pur []))) g_law_draw) (fun _ => pur (.int 0)))) env2 T = .ok (decide ((0 : Int) < q)) T1 := tst_ok ((bin_okS (g := gtD) (f2 := fun _ => pur (.int 0)) (b := .int 0) e2 rfl).trans rfl)
    refine ⟨env2, _, T1, rfl, c2, hT1, fun _ => ?_⟩
    obtain ⟨c, T2, hc, hT2, e4⟩ := anyn (i := 0) (env := env2) (S := T1) (f := getv 3) (xs := ns.map .str) rfl (getv_ok rfl) (by rw [List.length_map, nl]; exact hs.p) (by rw [List.length_map]; omega) hT1
    obtain ⟨c', hc', rfl⟩ := List.mem_map.mp hc
    exact ⟨_, T2, dsp2 (getv_ok (i := 8) (d := d) rfl) e4, ⟨c', hc', rfl⟩, hT2⟩)
  obtain ⟨ms, m1, m2, m3⟩ := members_of (P := fun _ => True) k2 k3
  have c7 : (cmp [8] mkL (itr1 (cns (getv 4) (fun _ => pur []))) (toN 8) (tst (bin gtD (cal (cns (getv 0) (cns (fun _ => pur (.int 4)) (fun _ => pur []))) g_law_draw) (fun _ => pur (.int 0)))) (dsp mkT (cns (getv 8) (cns (cal (cns (getv 0) (cns (getv 3) (fun _ => pur []))) g_law_any) (fun _ => pur []))))) env1 S1 = .ok (.lst (ms.map memP)) S2 := by
    rw [← m1]
    exact cmp_it it7 k1
  have ml : ms.length ≤ 6 := by have := m2.length_le; rw [List.length_map, List.length_range] at this; omega
  have mlt : ∀ m ∈ ms, m.1 < r := fun m hm => List.mem_range.mp (m2.subset (List.mem_map.mpr ⟨m, hm, rfl⟩))
  have mok : MbOk ms := ⟨fun m hm => ⟨hs.cls _ (m3 m hm), by have := mlt m hm; omega⟩, by omega⟩
  let env3 : Fx.Env := [some (.obj 0), some sd, some (.int 6), some (.lst (ns.map .str)), some (.int (r : Nat)), none, none, some (.lst (ms.map memP)), none, none]
  have s7 : Fx.set 7 (cmp [8] mkL (itr1 (cns (getv 4) (fun _ => pur []))) (toN 8) (tst (bin gtD (cal (cns (getv 0) (cns (fun _ => pur (.int 4)) (fun _ => pur []))) g_law_draw) (fun _ => pur (.int 0)))) (dsp mkT (cns (getv 8) (cns (cal (cns (getv 0) (cns (getv 3) (fun _ => pur []))) g_law_any) (fun _ => pur []))))) env1 S1 = .ok (.nx env3) S2 := set_ok c7
  obtain ⟨ws, S3, p1, p2, p3, R3, hF3, hE3⟩ := comp_rel (t := toTup (toCons (toN 8) (toCons (toN 5) toNil))) (el := (dsp mkT (cns (getv 8) (cns (getv 5) (cns (cal (cns (getv 0) (cns (bin dgetD (cal (cns (getv 1) (fun _ => pur [])) dictD) (getv 5)) (cns (getv 7) (fun _ => pur [])))) g_law_values) (fun _ => pur [])))))) (env0 := wipeE env3 [8, 5]) (fun T => ∃ R', Fd T R' ∧ Ext R R')
    (fun d y => ∀ (k : Nat) (c : Str), d = .tup [.int (k : Nat), .str c] → ∃ vs f, formOf sc c = some f ∧ vs.length = f.length ∧ (∀ v ∈ vs, Vl v) ∧ y = obD (k, c, vs)) (ms.map memP) [] S2 (sz _ (by simp; omega)) ⟨R, hF2, Ext.refl R⟩ (by
      rintro d hd T ⟨R', hT, hE⟩
      obtain ⟨m, hm, rfl⟩ := List.mem_map.mp hd
      obtain ⟨f, hf⟩ := Option.isSome_iff_exists.mp (formOf_isSome (m3 m hm))
      let env4 : Fx.Env := [some (.obj 0), some sd, some (.int 6), some (.lst (ns.map .str)), some (.int (r : Nat)), some (.str m.2), none, some (.lst (ms.map memP)), some (.int (m.1 : Nat)), none]
      have dg := dget_sc (f1 := getv 1) (f2 := getv 5) (env := env4) (S := T) hs.nd (getv_ok rfl) (fun T => getv_ok rfl) hf
      obtain ⟨vs, T', e4, e5, e6, e7⟩ := values_ok (hs.kok hf) mok (hT.app (some (.dct (fkvs sc))))
      have c4 := (cal3_mid (g := g_law_values) (getv_ok (i := 0) (env := env4) (S := T) rfl) dg (getv_ok (i := 7) rfl)).trans e4
      refine ⟨env4, rfl, _, T', dsp3 (getv_ok (i := 8) rfl) (getv_ok (i := 5) rfl) c4, ?_, _, e7, hE.trans (Ext.app R' _)⟩
      intro k c e
      have e8 : m.1 = k ∧ m.2 = c := by
        injection e with e
        injection e with a b
        injection b with b _
        injection a with a
        injection b with b
        exact ⟨by omega, b⟩
      obtain ⟨rfl, rfl⟩ := e8
      exact ⟨vs, f, hf, e5, e6, rfl⟩)
  obtain ⟨os, o1, o2, o3⟩ := objects_of p2 p3
  have c9 : (cmp [8, 5] mkL (itf (getv 7)) (toTup (toCons (toN 8) (toCons (toN 5) toNil))) (fun _ => pur true) (dsp mkT (cns (getv 8) (cns (getv 5) (cns (cal (cns (getv 0) (cns (bin dgetD (cal (cns (getv 1) (fun _ => pur [])) dictD) (getv 5)) (cns (getv 7) (fun _ => pur [])))) g_law_values) (fun _ => pur [])))))) env3 S2 = .ok (.lst (os.map obD)) S3 := by
    rw [← o1]
    exact p1
  have ol : os.length ≤ 6 := by have := congrArg List.length o2; rw [List.length_map] at this; omega
  have s9 := set_ok (i := 9) c9
  refine ⟨r, os, S3, R3, body_rt (b := b_law_house) rfl ((seq_nx s1).trans ((seq_nx s7).trans ((seq_nx s9).trans (ret_ok ?_)))), ?_, by omega, ol, fun o ho v hv => (o3 o ho).elim fun f h => h.2.2 v hv, hF3, hE3⟩
  · exact dsp3 (getv_ok rfl) (getv_ok rfl) ((cal1_ok (g := tupleD) (getv_ok (i := 9) rfl)).trans (tup_lst (sz _ (by rw [List.length_map]; omega))))
  · have om : ∀ o ∈ os, (o.1, o.2.1) ∈ ms := fun o ho => by rw [← o2]; exact List.mem_map.mpr ⟨o, ho, rfl⟩
    refine ⟨hs, ?_, fun o ho => mlt _ (om o ho), by omega, fun o ho => m3 _ (om o ho), fun o ho f hf => ?_, fun o ho d hd => ?_, by omega⟩
    · have : os.map (·.1) = ms.map (·.1) := by rw [← o2, List.map_map]; rfl
      rw [this]
      exact m2.nodup List.nodup_range
    · obtain ⟨f', h1, h2, _⟩ := o3 o ho
      rw [hf] at h1; cases h1
      exact h2
    · obtain ⟨_, _, _, h3⟩ := o3 o ho
      exact ⟨(h3 d hd).f, (h3 d hd).g⟩
/-! ### what is drawn of it -/
section
variable {sc : List Form} {lim : Nat} {os : List Ob}
theorem ids_ok (env : Fx.Env) (S : Store) (h : HouseOk sc lim os) (vs : List Nat) (t : D → Fx.Env → Option Fx.Env) (it : itf (bin ixD (getv 1) (fun _ => pur (.int 2))) env S = .ok (os.map obD) S) (j : Nat) (ht : ∀ o ∈ os, ∃ env1, t (obD o) (wipeE env vs) = some env1 ∧ env1[j]? = some (some (.int (o.1 : Nat)))) :
    cmp vs mkL (itf (bin ixD (getv 1) (fun _ => pur (.int 2)))) t (fun _ => pur true) (getv j) env S = .ok (.lst (os.map fun o => D.int (o.1 : Nat))) S := cmp_map obD (fun o => D.int (o.1 : Nat)) os it (fun o ho => by
    obtain ⟨e, h1, h2⟩ := ht o ho
    exact ⟨e, h1, getv_ok h2⟩) (by have := h.len; omega)
theorem some_number_ok {S R : Store} (h : HouseOk sc lim os) (hF : Fd S R) : ∃ d S', g_law_some_number [.obj 0, houseD sc lim os] S = .ok d S' ∧ d ∈ numsL ∧ Fd S' R := by
  let H := houseD sc lim os
  let A : List D := os.map fun o => D.int (o.1 : Nat)
  let env0 : Fx.Env := ent 6 [.obj 0, H]
  have c2 := ids_ok env0 S h [3, 4, 5] (toTup (toCons (toN 3) (toCons (toN 4) (toCons (toN 5) toNil)))) rfl 3 (fun o ho => ⟨_, rfl, rfl⟩)
  let env1 : Fx.Env := [some (.obj 0), some H, some (.lst A), none, none, none]
  have s2 : Fx.set 2 _ env0 S = .ok (.nx env1) S := set_ok c2
  let B : List D := [.int (lim : Nat), .int (-1), .non, .bl true, .str "a", .tup [.int 0]]
  have al : A.length ≤ 20 := by rw [List.length_map]; exact h.len
  have q : (bin (addD mkL) (bin (addD mkL) (getv 2) (getv 2)) (dsp mkL (cns (bin ixD (getv 1) (fun _ => pur (.int 1))) (cns (un negD (fun _ => pur (.int 1))) (cns (fun _ => pur .non) (cns (fun _ => pur (.bl true)) (cns (fun _ => pur (.str "a")) (cns (dsp mkT (cns (fun _ => pur (.int 0)) (fun _ => pur []))) (fun _ => pur []))))))))) env1 S = .ok (.lst ((A ++ A) ++ B)) S := (bin_ok (g := addD mkL) ((bin_ok (g := addD mkL) (getv_ok (i := 2) rfl) (getv_ok (i := 2) rfl)).trans (addL (by omega))) (b := .lst B) rfl).trans (addL (by rw [List.length_append]; show _ + 6 ≤ _; omega))
  obtain ⟨d, S', hd, hF', e1⟩ := anyn (i := 0) (env := env1) rfl q (by rw [List.length_append]; show 0 < _ + 6; omega) (by rw [List.length_append, List.length_append]; show _ + 6 < _; omega) hF
  refine ⟨d, S', body_rt (b := b_law_some_number) rfl ((seq_nx s2).trans (ret_okS e1)), ?_, hF'⟩
  have k20 : ∀ k : Nat, k ≤ 20 → D.int (k : Nat) ∈ numsL := fun k hk => List.mem_append_left _ (List.mem_map.mpr ⟨k, List.mem_range.mpr (by omega), rfl⟩)
  have hA : ∀ x ∈ A, x ∈ numsL := fun x hx => by
    obtain ⟨o, ho, rfl⟩ := List.mem_map.mp hx
    exact k20 _ (h.l20 o ho)
  rcases List.mem_append.mp hd with h1 | h1
  · rcases List.mem_append.mp h1 with h1 | h1 <;> exact hA _ h1
  · simp only [B, List.mem_cons, List.not_mem_nil, or_false] at h1
    rcases h1 with rfl | rfl | rfl | rfl | rfl | rfl
    · exact k20 _ h.li
    all_goals exact List.mem_append_right _ (by simp)
def big30 : Int := 10 ^ 30
/-- an item: anything flat -/
structure It (d : D) : Prop where
  f : flatP d = true
  g : gd big60 d = true
  w : wgt d ≤ 200
theorem Vl.it {d : D} (h : Vl d) : It d := ⟨h.f, gd_mono (by decide) _ h.g, Nat.le_trans h.w (by decide)⟩
theorem It.consts : ∀ d ∈ ([.int 0, .int 1, .int 2, .int 3, .int 9, .int (-1), .non, .bl true, .str "a", .int big30] : List D), flatP d = true ∧ gd big60 d = true ∧ wgt d ≤ 200 := by decide +kernel
theorem pow30 {S : Store} : powD (.int 10) (.int 30) S = .ok (.int big30) S := by
  simp only [powD]
  rw [if_pos (by decide)]
  rfl
theorem some_item_ok {S R : Store} (h : HouseOk sc lim os) (hF : Fd S R) : ∃ d S', g_law_some_item [.obj 0, houseD sc lim os] S = .ok d S' ∧ It d ∧ Fd S' R := by
  let H := houseD sc lim os
  let A : List D := os.map fun o => D.int (o.1 : Nat)
  let env0 : Fx.Env := ent 6 [.obj 0, H]
  have c2 := ids_ok env0 S h [3, 4, 5] (toTup (toCons (toN 3) (toCons (toN 4) (toCons (toN 5) toNil)))) rfl 3 (fun o ho => ⟨_, rfl, rfl⟩)
  let env1 : Fx.Env := [some (.obj 0), some H, some (.lst A), none, none, none]
  have s2 : Fx.set 2 _ env0 S = .ok (.nx env1) S := set_ok c2
  let B : List D := [.int 0, .int 1, .int 2, .int 3, .int 9, .int (-1), .non, .non, .bl true, .str "a", .int (lim : Nat), .int big30]
  have al : A.length ≤ 20 := by rw [List.length_map]; exact h.len
  have p30 : bin powD (fun _ => pur (.int 10)) (fun _ => pur (.int 30)) env1 S = .ok (.int big30) S := kbink.trans pow30
  have l1 : bin ixD (getv 1) (fun _ => pur (.int 1)) env1 S = .ok (.int (lim : Nat)) S := rfl
  have n1 : un negD (fun _ => pur (.int 1)) env1 S = .ok (.int (-1)) S := rfl
  have qB : (dsp mkL (cns (fun _ => pur (.int 0)) (cns (fun _ => pur (.int 1)) (cns (fun _ => pur (.int 2)) (cns (fun _ => pur (.int 3)) (cns (fun _ => pur (.int 9)) (cns (un negD (fun _ => pur (.int 1))) (cns (fun _ => pur .non) (cns (fun _ => pur .non) (cns (fun _ => pur (.bl true)) (cns (fun _ => pur (.str "a")) (cns (bin ixD (getv 1) (fun _ => pur (.int 1))) (cns (bin powD (fun _ => pur (.int 10)) (fun _ => pur (.int 30))) (fun _ => pur [])))))))))))))) env1 S = .ok (.lst B) S := by
    rw [dsp]
    simp only [cns, bd, pur, n1, l1, p30]
    exact mkL_ok (sz _ (by simp only [List.length_cons, List.length_nil]; omega))
  have q : (bin (addD mkL) (bin (addD mkL) (dsp mkL (cns (fun _ => pur (.int 0)) (cns (fun _ => pur (.int 1)) (cns (fun _ => pur (.int 2)) (cns (fun _ => pur (.int 3)) (cns (fun _ => pur (.int 9)) (cns (un negD (fun _ => pur (.int 1))) (cns (fun _ => pur .non) (cns (fun _ => pur .non) (cns (fun _ => pur (.bl true)) (cns (fun _ => pur (.str "a")) (cns (bin ixD (getv 1) (fun _ => pur (.int 1))) (cns (bin powD (fun _ => pur (.int 10)) (fun _ => pur (.int 30))) (fun _ => pur [])))))))))))))) (getv 2)) (getv 2)) env1 S = .ok (.lst ((B ++ A) ++ A)) S := (bin_ok (g := addD mkL) ((bin_ok (g := addD mkL) qB (getv_ok (i := 2) rfl)).trans (addL (by show 12 + _ ≤ _; omega))) (getv_ok (i := 2) rfl)).trans (addL (by rw [List.length_append]; show 12 + _ + _ ≤ _; omega))
  obtain ⟨d, S', hd, hF', e1⟩ := anyn (i := 0) (env := env1) rfl q (by rw [List.length_append, List.length_append]; show 0 < 12 + _ + _; omega) (by rw [List.length_append, List.length_append]; show 12 + _ + _ < _; omega) hF
  refine ⟨d, S', body_rt (b := b_law_some_item) rfl ((seq_nx s2).trans (ret_okS e1)), ?_, hF'⟩
  have hA : ∀ x ∈ A, It x := fun x hx => by
    obtain ⟨o, ho, rfl⟩ := List.mem_map.mp hx
    exact (Vl.int (by have := h.l20 o ho; omega)).it
  have cs : ∀ d ∈ ([.int 0, .int 1, .int 2, .int 3, .int 9, .int (-1), .non, .bl true, .str "a", .int big30] : List D), It d := fun d hd => by
    obtain ⟨a, b, c⟩ := It.consts d hd
    exact ⟨a, b, c⟩
  rcases List.mem_append.mp hd with h1 | h1
  · rcases List.mem_append.mp h1 with h1 | h1
    · simp only [B, List.mem_cons, List.not_mem_nil, or_false] at h1
      rcases h1 with rfl | rfl | rfl | rfl | rfl | rfl | rfl | rfl | rfl | rfl | rfl | rfl
      · exact cs _ (by simp)
      · exact cs _ (by simp)
      · exact cs _ (by simp)
      · exact cs _ (by simp)
      · exact cs _ (by simp)
      · exact cs _ (by simp)
      · exact cs _ (by simp)
      · exact cs _ (by simp)
      · exact cs _ (by simp)
      · exact cs _ (by simp)
      · exact (Vl.int (by have := h.li; omega)).it
      · exact cs _ (by simp)
    · exact hA _ h1
  · exact hA _ h1
theorem some_label_ok {n : D} {S R : Store} (h : HouseOk sc lim os) (hn : n ∈ numsL) (hF : Fd S R) : ∃ d S' R', g_law_some_label [.obj 0, houseD sc lim os, n] S = .ok d S' ∧ d ∈ labelsL ∧ Fd S' R' ∧ Ext R R' := by
  let H := houseD sc lim os
  let env0 : Fx.Env := ent 9 [.obj 0, H, n]
  have it0 : itf (bin ixD (getv 1) (fun _ => pur (.int 2))) env0 S = .ok (os.map obD) S := rfl
  obtain ⟨z3, As, S1, R1, hs3, hA, hl, hF1, hE1⟩ : ∃ (z3 : Option D) (As : List Str) (S1 R1 : Store), (∀ {x : RsS}, (Fx.ret (cal (cns (getv 0) (cns (bin (addD mkL) (bin (addD mkL) (getv 5) (getv 5)) (dsp mkL (cns (fun _ => pur (.str "z")) (cns (fun _ => pur (.str "")) (cns (fun _ => pur .non) (cns (fun _ => pur (.int 0)) (cns (dsp mkT (cns (fun _ => pur (.str "k")) (fun _ => pur []))) (fun _ => pur [])))))))) (fun _ => pur []))) g_law_any)) [some (.obj 0), some H, some n, z3, none, some (.lst (As.map .str)), none, none, none] S1 = x → b_law_some_label env0 S = x) ∧ (∀ a ∈ As, a ∈ labs) ∧ As.length ≤ 20 ∧ Fd S1 R1 ∧ Ext R R1 := by
    cases hm : memO os n with
    | none =>
      have c3 := cmp_mapS (vs := [4, 5, 6]) (t := toTup (toCons (toN 4) (toCons (toN 5) (toCons (toN 6) toNil)))) (c := (andB (tst (cal (cns (getv 1) (cns (getv 2) (fun _ => pur []))) g_law_is_member)) (tst (bin eqD (getv 4) (getv 2))))) (el := getv 5) (env := env0) obD (fun o => D.str o.2.1) (fun _ => false) os it0 (fun o ho => by
        refine ⟨[some (.obj 0), some H, some n, none, some (.int (o.1 : Nat)), some (.str o.2.1), some (.tup o.2.2), none, none], rfl, ?_, fun _ => getv_ok rfl⟩
        have m := (cal2_ok (g := g_law_is_member) (f1 := getv 1) (f2 := getv 2) (env := [some (.obj 0), some H, some n, none, some (.int (o.1 : Nat)), some (.str o.2.1), some (.tup o.2.2), none, none]) (S := S) (getv_ok rfl) (getv_ok rfl)).trans (is_member_ok S h hn)
        rw [hm] at m
        exact and_ff (tst_ok m)) (by have := h.len; omega)
      rw [show os.filter (fun _ => false) = [] by simp] at c3
      let env1 : Fx.Env := [some (.obj 0), some H, some n, some (.lst []), none, none, none, none, none]
      have s3 : Fx.set 3 (cmp [4, 5, 6] mkL (itf (bin ixD (getv 1) (fun _ => pur (.int 2)))) (toTup (toCons (toN 4) (toCons (toN 5) (toCons (toN 6) toNil)))) (andB (tst (cal (cns (getv 1) (cns (getv 2) (fun _ => pur []))) g_law_is_member)) (tst (bin eqD (getv 4) (getv 2)))) (getv 5)) env0 S = .ok (.nx env1) S := set_ok c3
      have t5 := tst_ok ((bin_ok (g := neD) (getv_ok (i := 3) (env := env1) (S := S) rfl) (nilL _ S)).trans (ne_nilL (n := 0) (ds := []) rfl (by decide)))
      let env2 : Fx.Env := [some (.obj 0), some H, some n, some (.lst []), none, some (.lst ((["k"] : List Str).map .str)), none, none, none]
      have s5 : Fx.set 5 (iteV (tst (bin neD (getv 3) (dsp mkL (fun _ => pur [])))) (cmp [7, 8] mkL (itf (bin dgetD (cal (cns (bin ixD (getv 1) (fun _ => pur (.int 0))) (fun _ => pur [])) dictD) (bin ixD (getv 3) (fun _ => pur (.int 0))))) (toTup (toCons (toN 7) (toCons (toN 8) toNil))) (fun _ => pur true) (getv 7)) (dsp mkL (cns (fun _ => pur (.str "k")) (fun _ => pur [])))) env1 S = .ok (.nx env2) S := set_ok (i := 5) ((ite_f (f := (cmp [7, 8] mkL (itf (bin dgetD (cal (cns (bin ixD (getv 1) (fun _ => pur (.int 0))) (fun _ => pur [])) dictD) (bin ixD (getv 3) (fun _ => pur (.int 0))))) (toTup (toCons (toN 7) (toCons (toN 8) toNil))) (fun _ => pur true) (getv 7))) (g := (dsp mkL (cns (fun _ => pur (.str "k")) (fun _ => pur [])))) t5).trans (show (dsp mkL (cns (fun _ => pur (.str "k")) (fun _ => pur []))) env1 S = .ok (.lst [.str "k"]) S from rfl))
      have pre : ∀ {x : RsS}, (Fx.ret (cal (cns (getv 0) (cns (bin (addD mkL) (bin (addD mkL) (getv 5) (getv 5)) (dsp mkL (cns (fun _ => pur (.str "z")) (cns (fun _ => pur (.str "")) (cns (fun _ => pur .non) (cns (fun _ => pur (.int 0)) (cns (dsp mkT (cns (fun _ => pur (.str "k")) (fun _ => pur []))) (fun _ => pur [])))))))) (fun _ => pur []))) g_law_any)) env2 S = x → b_law_some_label env0 S = x := fun hx => (seq_nx s3).trans ((seq_nx s5).trans hx)
      exact ⟨some (.lst []), ["k"], S, R, pre, by simp [labs], by simp, hF, Ext.refl R⟩
    | some c =>
      obtain ⟨i, rfl⟩ : ∃ i, n = .int i := by
        cases n <;> first
          | exact ⟨_, rfl⟩
          | cases hm
      have hc : clsAt os i = some c := hm
      obtain ⟨f, hf⟩ := clsAt_form h hc
      have hk := h.kok hf
      have c3 := cmp_mapS (vs := [4, 5, 6]) (t := toTup (toCons (toN 4) (toCons (toN 5) (toCons (toN 6) toNil)))) (c := (andB (tst (cal (cns (getv 1) (cns (getv 2) (fun _ => pur []))) g_law_is_member)) (tst (bin eqD (getv 4) (getv 2))))) (el := getv 5) (env := env0) obD (fun o => D.str o.2.1) (fun o => (o.1 : Int) == i) os it0 (fun o ho => by
        let env1 : Fx.Env := [some (.obj 0), some H, some (.int i), none, some (.int (o.1 : Nat)), some (.str o.2.1), some (.tup o.2.2), none, none]
        refine ⟨env1, rfl, ?_, fun _ => getv_ok rfl⟩
        have m := (cal2_ok (g := g_law_is_member) (f1 := getv 1) (f2 := getv 2) (env := env1) (S := S) (getv_ok rfl) (getv_ok rfl)).trans (is_member_ok S h hn)
        rw [hm] at m
        exact (and_tt (tst_ok m)).trans (tst_ok ((bin_ok (g := eqD) (getv_ok rfl) (getv_ok rfl)).trans (eqD_int _ _ S)))) (by have := h.len; omega)
      let ds : List D := (os.filter fun o => (o.1 : Int) == i).map fun o => D.str o.2.1
      have hd0 : ds[0]? = some (.str c) := head_cls hc
      let env1 : Fx.Env := [some (.obj 0), some H, some (.int i), some (.lst ds), none, none, none, none, none]
      have s3 : Fx.set 3 (cmp [4, 5, 6] mkL (itf (bin ixD (getv 1) (fun _ => pur (.int 2)))) (toTup (toCons (toN 4) (toCons (toN 5) (toCons (toN 6) toNil)))) (andB (tst (cal (cns (getv 1) (cns (getv 2) (fun _ => pur []))) g_law_is_member)) (tst (bin eqD (getv 4) (getv 2)))) (getv 5)) env0 S = .ok (.nx env1) S := set_ok c3
      have gds0 : gd 0 (.lst ds) = true := by
        rw [gd, gds_mem]
        intro d hd
        obtain ⟨o, ho, rfl⟩ := List.mem_map.mp hd
        exact (cls5_ok _ (h.mem o (List.mem_filter.mp ho).1).1).1
      have t5 := tst_ok ((bin_ok (g := neD) (getv_ok (i := 3) (env := env1) (S := S) rfl) (nilL _ S)).trans (ne_nilL gds0 (Nat.le_trans (dep_lst (k := 0) fun d hd => by
        obtain ⟨o, _, rfl⟩ := List.mem_map.mp hd
        exact Nat.le_refl _) (by decide))))
      have e5 : ds.isEmpty = false := by
        cases e : ds with
        | nil => rw [e] at hd0; cases hd0
        | cons _ _ => rfl
      rw [e5] at t5
      have dg := dget_sc (f1 := bin ixD (getv 1) (fun _ => pur (.int 0))) (f2 := bin ixD (getv 3) (fun _ => pur (.int 0))) (env := env1) (S := S) h.s.nd rfl (fun T => (bink (g := ixD) (d := .int 0) (getv_ok (i := 3) rfl)).trans (ix_lst (k := 0) rfl hd0)) hf
      have c5 := cmp_map (vs := [7, 8]) (t := toTup (toCons (toN 7) (toCons (toN 8) toNil))) (el := getv 7) (env := env1) row (fun q => D.str q.1) f (itf_ok dg) (fun q hq => ⟨[some (.obj 0), some H, some (.int i), some (.lst ds), none, none, none, some (.str q.1), some q.2], rfl, getv_ok rfl⟩) (by have := hk.1; omega)
      have e6 : f.map (fun q => D.str q.1) = (f.map (·.1)).map .str := by rw [List.map_map]; rfl
      rw [e6] at c5
      let D0 : Option OD := some (.dct (fkvs sc))
      let S1 : Store := S ++ [D0]
      let R1 : Store := R ++ [D0]
      let env2 : Fx.Env := [some (.obj 0), some H, some (.int i), some (.lst ds), none, some (.lst ((f.map (·.1)).map .str)), none, none, none]
      have s5 : Fx.set 5 (iteV (tst (bin neD (getv 3) (dsp mkL (fun _ => pur [])))) (cmp [7, 8] mkL (itf (bin dgetD (cal (cns (bin ixD (getv 1) (fun _ => pur (.int 0))) (fun _ => pur [])) dictD) (bin ixD (getv 3) (fun _ => pur (.int 0))))) (toTup (toCons (toN 7) (toCons (toN 8) toNil))) (fun _ => pur true) (getv 7)) (dsp mkL (cns (fun _ => pur (.str "k")) (fun _ => pur [])))) env1 S = .ok (.nx env2) S1 := set_ok (i := 5) ((ite_t (f := (cmp [7, 8] mkL (itf (bin dgetD (cal (cns (bin ixD (getv 1) (fun _ => pur (.int 0))) (fun _ => pur [])) dictD) (bin ixD (getv 3) (fun _ => pur (.int 0))))) (toTup (toCons (toN 7) (toCons (toN 8) toNil))) (fun _ => pur true) (getv 7))) (g := (dsp mkL (cns (fun _ => pur (.str "k")) (fun _ => pur [])))) t5).trans c5)
      have pre : ∀ {x : RsS}, (Fx.ret (cal (cns (getv 0) (cns (bin (addD mkL) (bin (addD mkL) (getv 5) (getv 5)) (dsp mkL (cns (fun _ => pur (.str "z")) (cns (fun _ => pur (.str "")) (cns (fun _ => pur .non) (cns (fun _ => pur (.int 0)) (cns (dsp mkT (cns (fun _ => pur (.str "k")) (fun _ => pur []))) (fun _ => pur [])))))))) (fun _ => pur []))) g_law_any)) env2 S1 = x → b_law_some_label env0 S = x := fun hx => (seq_nx s3).trans ((seq_nx s5).trans hx)
      have fin : ∀ a ∈ f.map (·.1), a ∈ labs := fun a ha => by
        obtain ⟨q, hq, rfl⟩ := List.mem_map.mp ha
        exact hk.2.2 q hq
      have fl : (f.map (·.1)).length ≤ 20 := by rw [List.length_map]; have := hk.1; omega
      have hF1 : Fd S1 R1 := hF.app D0
      have hE1 : Ext R R1 := Ext.app R [D0]
      refine ⟨some (.lst ds), f.map (·.1), S1, R1, ?_, ?_, ?_, ?_, ?_⟩
      · intro x hx; exact pre hx
      · exact fin
      · exact fl
      · exact hF1
      · exact hE1
  let A : List D := As.map .str
  let B : List D := [.str "z", .str "", .non, .int 0, .tup [.str "k"]]
  let env2 : Fx.Env := [some (.obj 0), some H, some n, z3, none, some (.lst A), none, none, none]
  have al : A.length ≤ 20 := by rw [List.length_map]; exact hl
  have q : (bin (addD mkL) (bin (addD mkL) (getv 5) (getv 5)) (dsp mkL (cns (fun _ => pur (.str "z")) (cns (fun _ => pur (.str "")) (cns (fun _ => pur .non) (cns (fun _ => pur (.int 0)) (cns (dsp mkT (cns (fun _ => pur (.str "k")) (fun _ => pur []))) (fun _ => pur [])))))))) env2 S1 = .ok (.lst ((A ++ A) ++ B)) S1 := (bin_ok (g := addD mkL) ((bin_ok (g := addD mkL) (getv_ok (i := 5) rfl) (getv_ok (i := 5) rfl)).trans (addL (by omega))) (b := .lst B) rfl).trans (addL (by rw [List.length_append]; show _ + 5 ≤ _; omega))
  obtain ⟨d, S', hd, hF', e1⟩ := anyn (i := 0) (env := env2) rfl q (by rw [List.length_append]; show 0 < _ + 5; omega) (by rw [List.length_append, List.length_append]; show _ + 5 < _; omega) hF1
  refine ⟨d, S', R1, body_rt (b := b_law_some_label) rfl (hs3 (ret_okS e1)), ?_, hF', hE1⟩
  have labL : ∀ x ∈ labs, D.str x ∈ labelsL := by
    intro x hx
    simp only [labs, List.mem_cons, List.not_mem_nil, or_false] at hx
    rcases hx with rfl | rfl | rfl | rfl <;> simp [labelsL]
  have hAA : ∀ x ∈ A, x ∈ labelsL := fun x hx => by
    obtain ⟨a, ha, rfl⟩ := List.mem_map.mp hx
    exact labL a (hA a ha)
  rcases List.mem_append.mp hd with h1 | h1
  · rcases List.mem_append.mp h1 with h1 | h1 <;> exact hAA _ h1
  · simp only [B, List.mem_cons, List.not_mem_nil, or_false] at h1
    rcases h1 with rfl | rfl | rfl | rfl | rfl <;> simp [labelsL]
end
end K18

end
/-! ## K18o -/
section
namespace K18
variable [Fx.Tabl]
open PySem Fx
open L2 (atI ixN Key)
/-! ### some values for a call of make -/
theorem slc_hi {f : Fx.Env → M D} {j : Nat} {env : Fx.Env} {S : Store} {vs : List D} {k : Nat} (hf : f env S = .ok (.tup vs) S) (hj : getv j env S = .ok (.int (k : Nat)) S) (hk : k ≤ vs.length) (hl : vs.length ≤ 1000) : slc f (fun _ => pur none) (fun env => bd ((getv j) env) intOf) env S = .ok (.tup (vs.take k)) S := by
  simp only [slc, bd, hf, hj, pur, intOf, slD]
  rw [if_pos (sz _ (by omega)), cut_take (by omega)]; rfl
theorem slc_lo {f : Fx.Env → M D} {j : Nat} {env : Fx.Env} {S : Store} {vs : List D} {k : Nat} (hf : f env S = .ok (.tup vs) S) (hj : getv j env S = .ok (.int (k : Nat)) S) (hk : k < vs.length) (hl : vs.length ≤ 1000) : slc f (fun env => bd ((bin (addD mkL) (getv j) (fun _ => pur (.int 1))) env) intOf) (fun _ => pur none) env S = .ok (.tup (vs.drop (k + 1))) S := by
  have a1 : bin (addD mkL) (getv j) (fun _ => pur (.int 1)) env S = .ok (.int ((k + 1 : Nat) : Int)) S := (bink (g := addD mkL) hj).trans rfl
  simp only [slc, bd, hf, a1, pur, intOf, slD]
  rw [if_pos (sz _ (by omega)), cut_drop (by omega)]; rfl
theorem slc_last {f : Fx.Env → M D} {env : Fx.Env} {S : Store} {vs : List D} (hf : f env S = .ok (.tup vs) S) (hl : vs.length ≤ 1000) : ∃ ys : List D, slc f (fun env => bd ((un negD (fun _ => pur (.int 1))) env) intOf) (fun _ => pur none) env S = .ok (.tup ys) S ∧ ys.length ≤ 1 ∧ ∀ y ∈ ys, y ∈ vs := by
  refine ⟨cutD vs (some (-1)) none, ?_, ?_, fun y hy => (cut_sub vs (some (-1)) none).subset hy⟩
  · have n1 : un negD (fun _ => pur (.int 1)) env S = .ok (.int (-1)) S := rfl
    simp only [slc, bd, hf, n1, pur, intOf, slD]
    rw [if_pos (sz _ (by omega))]; rfl
  · unfold cutD
    rw [HT.sIx_none, List.length_take]
    have : HT.sIx vs.length 0 (some (-1)) = (-1 + (vs.length : Int)).toNat := by simp [HT.sIx]
    rw [this]
    have := Nat.min_le_left (vs.length - (-1 + (vs.length : Int)).toNat) (List.drop (-1 + (vs.length : Int)).toNat vs).length
    omega
theorem addT {xs ys : List D} {S : Store} (h : xs.length + ys.length ≤ 3000) : addD mkL (.tup xs) (.tup ys) S = .ok (.tup (xs ++ ys)) S := by
  simp only [addD]
  rw [if_pos (sz _ (by omega))]; rfl
/-- values for a call -/
structure Lots (vs : List D) : Prop where
  i : ∀ v ∈ vs, It v
  l : vs.length ≤ 5
theorem Lots.vs {vs : List D} (h : Lots vs) : Vs vs := ⟨fun v hv => (h.i v hv).g, fun v hv => (h.i v hv).f, h.l⟩
section
variable {sc : List Form} {lim : Nat} {os : List Ob}
theorem some_lots_ok {c : Str} {S R : Store} (h : HouseOk sc lim os) (hF : Fd S R) : ∃ (vs : List D) (S' R' : Store), g_law_some_lots [.obj 0, houseD sc lim os, .str c] S = .ok (.tup vs) S' ∧ Lots vs ∧ Fd S' R' ∧ Ext R R' := by
  let H := houseD sc lim os
  let env0 : Fx.Env := ent 10 [.obj 0, H, .str c]
  let ms : List Mb := os.map fun o => (o.1, o.2.1)
  have it0 : itf (bin ixD (getv 1) (fun _ => pur (.int 2))) env0 S = .ok (os.map obD) S := rfl
  have c3 := cmp_map (vs := [4, 5, 6]) (t := toTup (toCons (toN 4) (toCons (toN 5) (toCons (toN 6) toNil)))) (el := dsp mkT (cns (getv 4) (cns (getv 5) (fun _ => pur [])))) (env := env0) obD memD os it0 (fun o ho => ⟨[some (.obj 0), some H, some (.str c), none, some (.int (o.1 : Nat)), some (.str o.2.1), some (.tup o.2.2), none, none, none], rfl, dsp2 (getv_ok rfl) (getv_ok rfl)⟩) (by have := h.len; omega)
  have e3 : os.map memD = ms.map memP := by rw [List.map_map]; rfl
  rw [e3] at c3
  let env1 : Fx.Env := [some (.obj 0), some H, some (.str c), some (.lst (ms.map memP)), none, none, none, none, none, none]
  have s3 : Fx.set 3 (cmp [4, 5, 6] mkL (itf (bin ixD (getv 1) (fun _ => pur (.int 2)))) (toTup (toCons (toN 4) (toCons (toN 5) (toCons (toN 6) toNil)))) (fun _ => pur true) (dsp mkT (cns (getv 4) (cns (getv 5) (fun _ => pur []))))) env0 S = .ok (.nx env1) S := set_ok c3
  have mok : MbOk ms := ⟨fun m hm => by
    obtain ⟨o, ho, rfl⟩ := List.mem_map.mp hm
    exact h.mem o ho, by rw [List.length_map]; have := h.len; omega⟩
  let D0 : Option OD := some (.dct (fkvs sc))
  let S1 : Store := S ++ [D0]
  let R1 : Store := R ++ [D0]
  have hS1 : S1[S.length]? = some (some (.dct (fkvs sc))) := by simp [S1, D0]
  have hF1 : Fd S1 R1 := hF.app D0
  have hE1 : Ext R R1 := Ext.app R [D0]
  let f : List (Str × D) := (formOf sc c).getD []
  have hk : KOk f := by
    show KOk ((formOf sc c).getD [])
    cases e : formOf sc c with
    | none => exact ⟨by simp, by simp, by simp⟩
    | some f => exact h.kok e
  have g6 : get2 (cal (cns (bin ixD (getv 1) (fun _ => pur (.int 0))) (fun _ => pur [])) dictD) (getv 2) (dsp mkT (fun _ => pur [])) env1 S = .ok (.tup (f.map row)) S1 := by
    have a : cal (cns (bin ixD (getv 1) (fun _ => pur (.int 0))) (fun _ => pur [])) dictD env1 S = .ok (.obj S.length) S1 := (cal1_ok (g := dictD) (f := bin ixD (getv 1) (fun _ => pur (.int 0))) (a := .tup (sc.map frow)) rfl).trans dict_sc
    have b : getv 2 env1 S1 = .ok (.str c) S1 := getv_ok rfl
    have o1 : objK (.obj S.length) S1 = .ok (S.length, fkvs sc) S1 := by simp only [objK, hS1]
    simp only [get2, bd, a, b, o1, nilT, keyOf, opt, pur, valD_fkvs h.s.nd]
    show Rs.ok (((formOf sc c).map fun f => D.tup (f.map row)).getD (.tup [])) S1 = .ok (.tup (((formOf sc c).getD []).map row)) S1
    cases formOf sc c <;> rfl
  obtain ⟨w, S2, e6, wl, wv, hF2⟩ := values_ok hk mok hF1
  have wi : ∀ v ∈ w, It v := fun v hv => (wv v hv).it
  have wl4 : w.length ≤ 4 := by have := hk.1; omega
  let env2 : Fx.Env := [some (.obj 0), some H, some (.str c), some (.lst (ms.map memP)), none, none, some (.tup w), none, none, none]
  have s6 : Fx.set 6 (cal (cns (getv 0) (cns (get2 (cal (cns (bin ixD (getv 1) (fun _ => pur (.int 0))) (fun _ => pur [])) dictD) (getv 2) (dsp mkT (fun _ => pur []))) (cns (getv 3) (fun _ => pur [])))) g_law_values) env1 S = .ok (.nx env2) S2 := set_ok ((cal3_mid (g := g_law_values) (getv_ok (i := 0) rfl) g6 (getv_ok (i := 3) rfl)).trans e6)
  obtain ⟨q, S3, hq, hF3, e7⟩ := drawz (i := 0) (env := env2) (m := 6) 6 rfl rfl (by decide) (by decide) hF2
  let env3 : Fx.Env := [some (.obj 0), some H, some (.str c), some (.lst (ms.map memP)), none, none, some (.tup w), some (.int (q : Nat)), none, none]
  have s7 : Fx.set 7 (cal (cns (getv 0) (cns (fun _ => pur (.int 6)) (fun _ => pur []))) g_law_draw) env2 S2 = .ok (.nx env3) S3 := set_ok e7
  have t1 : tst (bin ltD (getv 7) (fun _ => pur (.int 3))) env3 S3 = .ok (decide ((q : Int) < 3)) S3 := tst_ok ((bink (g := ltD) (getv_ok (i := 7) rfl)).trans rfl)
  have gw : gd big60 (.tup w) = true := by rw [gd, gds_mem]; exact fun d hd => (wi d hd).g
  have dw : dep (.tup w) ≤ 64 := Nat.le_trans (dep_tup (k := 0) fun d hd => by rw [flat_dep (wi d hd).f]; exact Nat.le_refl _) (by decide)
  have t2 : tst (bin eqD (getv 6) (dsp mkT (fun _ => pur []))) env3 S3 = .ok w.isEmpty S3 := tst_ok ((bin_ok (g := eqD) (getv_ok (i := 6) rfl) (nilT _ S3)).trans (eq_nilT gw dw))
  have t3 : tst (bin eqD (getv 7) (fun _ => pur (.int 5))) env3 S3 = .ok ((q : Int) == 5) S3 := tst_ok ((bink (g := eqD) (getv_ok (i := 7) rfl)).trans (eqD_int _ _ S3))
  have pre : ∀ {x : RsS}, (seqS (ifS (orB (tst (bin ltD (getv 7) (fun _ => pur (.int 3)))) (tst (bin eqD (getv 6) (dsp mkT (fun _ => pur []))))) (Fx.ret (iteV (tst (bin eqD (getv 7) (fun _ => pur (.int 5)))) (bin (addD mkL) (getv 6) (dsp mkT (cns (fun _ => pur (.int 0)) (fun _ => pur [])))) (getv 6))) pass) (seqS (Fx.set 8 (cal (cns (getv 0) (cns (cal (cns (getv 6) (fun _ => pur [])) lenD) (fun _ => pur []))) g_law_draw)) (seqS (Fx.set 9 (dsp mkN (cns (slc (getv 6) (fun _ => pur none) (fun env => bd ((getv 8) env) intOf)) (cns (bin (addD mkL) (getv 6) (slc (getv 6) (fun env => bd ((un negD (fun _ => pur (.int 1))) env) intOf) (fun _ => pur none))) (fun _ => pur []))))) (seqS (Fx.drop (met (getv 9) (cns (bin (addD mkL) (bin (addD mkL) (slc (getv 6) (fun _ => pur none) (fun env => bd ((getv 8) env) intOf)) (dsp mkT (cns (cal (cns (getv 0) (cns (getv 1) (fun _ => pur []))) g_law_some_item) (fun _ => pur [])))) (slc (getv 6) (fun env => bd ((bin (addD mkL) (getv 8) (fun _ => pur (.int 1))) env) intOf) (fun _ => pur none))) (fun _ => pur [])) appD)) (frzV 9 (Fx.ret (bin ixD (getv 9) (bin subD (getv 7) (fun _ => pur (.int 3)))))))))) env3 S3 = x → b_law_some_lots env0 S = x := fun hx => (seq_nx s3).trans ((seq_nx s6).trans ((seq_nx s7).trans hx))
  by_cases hc : ((q : Int) < 3) ∨ w.isEmpty = true
  · have cnd : (orB (tst (bin ltD (getv 7) (fun _ => pur (.int 3)))) (tst (bin eqD (getv 6) (dsp mkT (fun _ => pur []))))) env3 S3 = .ok true S3 := by
      by_cases h3 : (q : Int) < 3
      · rw [decide_eq_true h3] at t1; exact or_t t1
      · rw [decide_eq_false h3] at t1
        rcases hc with hc | hc
        · exact absurd hc h3
        · rw [hc] at t2; exact (or_f t1).trans t2
    by_cases h5 : (q : Int) = 5
    · have e5 : ((q : Int) == 5) = true := by simp [h5]
      rw [e5] at t3
      refine ⟨w ++ [.int 0], S3, R1, body_rt (b := b_law_some_lots) rfl (pre (seq_rt ((ifS_t cnd).trans (ret_ok ((ite_t t3).trans ?_))))), ⟨fun v hv => ?_, by rw [List.length_append, List.length_singleton]; omega⟩, hF3, hE1⟩
      · exact (bin_ok (g := addD mkL) (getv_ok (i := 6) rfl) (f2 := dsp mkT (cns (fun _ => pur (.int 0)) (fun _ => pur []))) (b := .tup [.int 0]) rfl).trans (addT (by rw [List.length_singleton]; omega))
      · rcases List.mem_append.mp hv with hv | hv
        · exact wi v hv
        · rw [List.mem_singleton.mp hv]; exact (Vl.int (by decide)).it
    · have e5 : ((q : Int) == 5) = false := by simp [h5]
      rw [e5] at t3
      exact ⟨w, S3, R1, body_rt (b := b_law_some_lots) rfl (pre (seq_rt ((ifS_t cnd).trans (ret_ok ((ite_f t3).trans (getv_ok rfl)))))), ⟨wi, by omega⟩, hF3, hE1⟩
  · have h3 : ¬ (q : Int) < 3 := fun e => hc (.inl e)
    have hw : w.isEmpty = false := by
      cases e : w.isEmpty with
      | false => rfl
      | true => exact absurd (.inr e) hc
    rw [decide_eq_false h3] at t1
    rw [hw] at t2
    have cnd : (orB (tst (bin ltD (getv 7) (fun _ => pur (.int 3)))) (tst (bin eqD (getv 6) (dsp mkT (fun _ => pur []))))) env3 S3 = .ok false S3 := (or_f t1).trans t2
    have wp : 0 < w.length := by cases w <;> simp at hw ⊢
    obtain ⟨k, S4, hk4, hF4, e8⟩ := drawn (i := 0) (env := env3) (f := cal (cns (getv 6) (fun _ => pur [])) lenD) (m := w.length) rfl ((cal1_ok (g := lenD) (getv_ok (i := 6) rfl)).trans lenT) wp (by omega) hF3
    let env4 : Fx.Env := [some (.obj 0), some H, some (.str c), some (.lst (ms.map memP)), none, none, some (.tup w), some (.int (q : Nat)), some (.int (k : Nat)), none]
    have s8 : Fx.set 8 (cal (cns (getv 0) (cns (cal (cns (getv 6) (fun _ => pur [])) lenD) (fun _ => pur []))) g_law_draw) env3 S3 = .ok (.nx env4) S4 := set_ok e8
    obtain ⟨ys, ly, yl, ym⟩ := slc_last (f := getv 6) (env := env4) (S := S4) (vs := w) (getv_ok rfl) (by omega)
    have hi := slc_hi (f := getv 6) (j := 8) (env := env4) (S := S4) (vs := w) (getv_ok rfl) (getv_ok rfl) (Nat.le_of_lt hk4) (by omega)
    have ad := (bin_ok (g := addD mkL) (getv_ok (i := 6) (env := env4) (S := S4) rfl) ly).trans (addT (by omega))
    let A : List D := [.tup (w.take k), .tup (w ++ ys)]
    have mk : (dsp mkN (cns (slc (getv 6) (fun _ => pur none) (fun env => bd ((getv 8) env) intOf)) (cns (bin (addD mkL) (getv 6) (slc (getv 6) (fun env => bd ((un negD (fun _ => pur (.int 1))) env) intOf) (fun _ => pur none))) (fun _ => pur [])))) env4 S4 = .ok (.obj (R1.length + 1)) (S4 ++ [some (.lst A)]) := by
      have := mkN_ok (f := (cns (slc (getv 6) (fun _ => pur none) (fun env => bd ((getv 8) env) intOf)) (cns (bin (addD mkL) (getv 6) (slc (getv 6) (fun env => bd ((un negD (fun _ => pur (.int 1))) env) intOf) (fun _ => pur none))) (fun _ => pur [])))) (env := env4) (S := S4) (ds := A) (by simp only [cns, bd, hi, ad, pur]; rfl) (sz 2 (by decide))
      rw [hF4.len] at this
      exact this
    let env5 : Fx.Env := [some (.obj 0), some H, some (.str c), some (.lst (ms.map memP)), none, none, some (.tup w), some (.int (q : Nat)), some (.int (k : Nat)), some (.obj (R1.length + 1))]
    let S5 : Store := S4 ++ [some (.lst A)]
    let R5 : Store := R1 ++ [some (.lst A)]
    have hF5 : Fd S5 R5 := hF4.app _
    have hR5 : R5[R1.length]? = some (some (.lst A)) := by simp [R5]
    have s9 : Fx.set 9 (dsp mkN (cns (slc (getv 6) (fun _ => pur none) (fun env => bd ((getv 8) env) intOf)) (cns (bin (addD mkL) (getv 6) (slc (getv 6) (fun env => bd ((un negD (fun _ => pur (.int 1))) env) intOf) (fun _ => pur none))) (fun _ => pur [])))) env4 S4 = .ok (.nx env5) S5 := set_ok mk
    obtain ⟨d, S6, e10, di, hF6⟩ := some_item_ok h hF5
    have hi5 := slc_hi (f := getv 6) (j := 8) (env := env5) (S := S5) (vs := w) (getv_ok rfl) (getv_ok rfl) (Nat.le_of_lt hk4) (by omega)
    have lo6 := slc_lo (f := getv 6) (j := 8) (env := env5) (S := S6) (vs := w) (getv_ok rfl) (getv_ok rfl) hk4 (by omega)
    have d1 : dsp mkT (cns (cal (cns (getv 0) (cns (getv 1) (fun _ => pur []))) g_law_some_item) (fun _ => pur [])) env5 S5 = .ok (.tup [d]) S6 := by
      have c := (cal2_ok (g := g_law_some_item) (f1 := getv 0) (f2 := getv 1) (env := env5) (S := S5) (getv_ok rfl) (getv_ok rfl)).trans e10
      rw [dsp]
      simp only [cns, bd, c, pur]
      exact mkT_ok (sz 1 (by decide))
    let B : List D := w.take k ++ [d] ++ w.drop (k + 1)
    have bl : B.length ≤ 5 := by
      show (w.take k ++ [d] ++ w.drop (k + 1)).length ≤ 5
      rw [List.length_append, List.length_append, List.length_take, List.length_drop, List.length_singleton]; omega
    have el : (bin (addD mkL) (bin (addD mkL) (slc (getv 6) (fun _ => pur none) (fun env => bd ((getv 8) env) intOf)) (dsp mkT (cns (cal (cns (getv 0) (cns (getv 1) (fun _ => pur []))) g_law_some_item) (fun _ => pur [])))) (slc (getv 6) (fun env => bd ((bin (addD mkL) (getv 8) (fun _ => pur (.int 1))) env) intOf) (fun _ => pur none))) env5 S5 = .ok (.tup B) S6 := by
      refine (bin_okS (g := addD mkL) ((bin_okS (g := addD mkL) hi5 d1).trans (addT (by rw [List.length_take, List.length_singleton]; omega))) lo6).trans (addT ?_)
      rw [List.length_append, List.length_take, List.length_drop, List.length_singleton]; omega
    obtain ⟨a1, a2⟩ := appd_ok (i := 9) (n := R1.length) (env := env5) (y := .tup B) rfl hF5 hR5 el hF6 hR5 (by show 2 < 1000; decide)
    let S7 : Store := S6.set (R1.length + 1) (some (.lst (A ++ [.tup B])))
    have hS7 : S7[R1.length + 1]? = some (some (.lst (A ++ [.tup B]))) := by
      have : R1.length < R5.length := by simp [R5]
      show (S6.set (R1.length + 1) _)[R1.length + 1]? = _
      rw [List.getElem?_set_self (by have := hF6.len; omega)]
    let env6 : Fx.Env := [some (.obj 0), some H, some (.str c), some (.lst (ms.map memP)), none, none, some (.tup w), some (.int (q : Nat)), some (.int (k : Nat)), some (.lst (A ++ [.tup B]))]
    let S8 : Store := S7.set (R1.length + 1) none
    have fr : (frzV 9 (Fx.ret (bin ixD (getv 9) (bin subD (getv 7) (fun _ => pur (.int 3)))))) env5 S7 = (Fx.ret (bin ixD (getv 9) (bin subD (getv 7) (fun _ => pur (.int 3))))) env6 S8 := by
      show (match S7[R1.length + 1]? with | some (some (.lst xs)) => (Fx.ret (bin ixD (getv 9) (bin subD (getv 7) (fun _ => pur (.int 3))))) (env5.set 9 (some (.lst xs))) (S7.set (R1.length + 1) none) | _ => RsS.no) = _
      rw [hS7]; rfl
    have sb : bin subD (getv 7) (fun _ => pur (.int 3)) env6 S8 = .ok (.int ((q : Int) - 3)) S8 := rfl
    have g9 : getv 9 env6 S8 = .ok (.lst (A ++ [.tup B])) S8 := rfl
    have fin : ∀ (vs : List D), (A ++ [D.tup B])[q - 3]? = some (.tup vs) → Lots vs → ∃ (vs : List D) (S' R' : Store), g_law_some_lots [.obj 0, H, .str c] S = .ok (.tup vs) S' ∧ Lots vs ∧ Fd S' R' ∧ Ext R R' := fun vs hv hL => by
      refine ⟨vs, S8, (R5.set R1.length (some (.lst (A ++ [.tup B])))).set R1.length none, body_rt (b := b_law_some_lots) rfl (pre ((if_no cnd).trans ((seq_nx s8).trans ((seq_nx s9).trans ((seq_nx a2).trans (fr.trans (ret_ok ?_))))))), hL, a1.set _ none, ?_⟩
      · exact (bin_ok (g := ixD) g9 sb).trans (ix_lst (k := q - 3) (by omega) hv)
      · rw [List.set_set]
        exact (hE1.trans (Ext.app R1 _)).set (by have := hE1.1; omega) none
    have q3 : q = 3 ∨ q = 4 ∨ q = 5 := by omega
    rcases q3 with rfl | rfl | rfl
    · exact fin (w.take k) rfl ⟨fun v hv => wi v (List.mem_of_mem_take hv), by rw [List.length_take]; omega⟩
    · exact fin (w ++ ys) rfl ⟨fun v hv => (List.mem_append.mp hv).elim (wi v) (fun hv => wi v (ym v hv)), by rw [List.length_append]; omega⟩
    · refine fin B rfl ⟨fun v hv => ?_, bl⟩
      rcases List.mem_append.mp hv with hv | hv
      · rcases List.mem_append.mp hv with hv | hv
        · exact wi v (List.mem_of_mem_take hv)
        · rw [List.mem_singleton.mp hv]; exact di
      · exact wi v (List.mem_of_mem_drop hv)
end
end K18

end
/-! ## K18p -/
section
namespace K18
variable [Fx.Tabl]
open PySem Fx
open L2 (atI ixN Key)
/-! ### what is due can be shown -/
theorem in2 {N W1 W2 P : Nat} {a b : D} (ha : In N W1 P a) (hb : In N W2 P b) : In N (W1 + W2 + 2) (P + 1) (.tup [a, b]) := In.tup (P := P) (fun d hd => by
  simp only [List.mem_cons, List.not_mem_nil, or_false] at hd
  rcases hd with rfl | rfl
  · exact ⟨ha.g, ha.p⟩
  · exact ⟨hb.g, hb.p⟩) (by rw [sw_cons, sw_cons, sw_nil]; have := ha.w; have := hb.w; omega)
theorem in3 {N W1 W2 W3 P : Nat} {a b c : D} (ha : In N W1 P a) (hb : In N W2 P b) (hc : In N W3 P c) : In N (W1 + W2 + W3 + 3) (P + 1) (.tup [a, b, c]) := In.tup (P := P) (fun d hd => by
  simp only [List.mem_cons, List.not_mem_nil, or_false] at hd
  rcases hd with rfl | rfl | rfl
  · exact ⟨ha.g, ha.p⟩
  · exact ⟨hb.g, hb.p⟩
  · exact ⟨hc.g, hc.p⟩) (by rw [sw_cons, sw_cons, sw_cons, sw_nil]; have := ha.w; have := hb.w; have := hc.w; omega)
theorem in4 {N W1 W2 W3 W4 P : Nat} {a b c e : D} (ha : In N W1 P a) (hb : In N W2 P b) (hc : In N W3 P c) (he : In N W4 P e) : In N (W1 + W2 + W3 + W4 + 4) (P + 1) (.tup [a, b, c, e]) := In.tup (P := P) (fun d hd => by
  simp only [List.mem_cons, List.not_mem_nil, or_false] at hd
  rcases hd with rfl | rfl | rfl | rfl
  · exact ⟨ha.g, ha.p⟩
  · exact ⟨hb.g, hb.p⟩
  · exact ⟨hc.g, hc.p⟩
  · exact ⟨he.g, he.p⟩) (by rw [sw_cons, sw_cons, sw_cons, sw_cons, sw_nil]; have := ha.w; have := hb.w; have := hc.w; have := he.w; omega)
def words : List Str := ["told", "step", "object", "make", "write", "class", "values", "field", "value"]
theorem words_ok : ∀ x ∈ words, gd big60 (.str x) = true ∧ wgt (.str x) ≤ 10 := by decide +kernel
theorem in_word {x : Str} (h : x ∈ words) (P : Nat) : In big60 10 P (.str x) := ⟨(words_ok x h).1, (words_ok x h).2, Nat.zero_le _⟩
theorem in_cls {c : Str} (h : c ∈ cls5) (P : Nat) : In big60 10 P (.str c) := ⟨gd_mono (Nat.zero_le _) _ (cls5_ok c h).1, Nat.le_trans (cls5_ok c h).2 (by decide), Nat.zero_le _⟩
theorem in_nat {k : Nat} (h : k ≤ 1000) (P : Nat) : In big60 30 P (.int (k : Nat)) := (In.int (N := 1000) (by omega) (by decide) 30 P (Nat.le_refl _)).mono (by decide) (Nat.le_refl _) (Nat.le_refl _)
theorem It.inn {d : D} (h : It d) (P : Nat) : In big60 200 P d := ⟨h.g, h.w, by rw [flat_dep h.f]; exact Nat.zero_le _⟩
theorem Lots.inn {vs : List D} (h : Lots vs) (P : Nat) : In big60 1005 (P + 1) (.tup vs) := In.tup (P := P) (fun d hd => ⟨(h.i d hd).g, ((h.i d hd).inn P).p⟩) (by
  have := sw_map_le (fun d : D => d) 200 (xs := vs) fun d hd => (h.i d hd).w
  rw [List.map_id'] at this
  have := h.l
  omega)
theorem ob_in {o : Ob} (h1 : o.1 ≤ 1000) (h2 : o.2.1 ∈ cls5) (h3 : Lots o.2.2) (P : Nat) : In big60 1100 (P + 2) (obD o) := (in3 (in_nat h1 (P + 1)) (in_cls h2 (P + 1)) (h3.inn P)).mono (Nat.le_refl _) (by omega) (Nat.le_refl _)
theorem house_in {sc : List Form} {lim : Nat} {os : List Ob} (hs : Sch sc) (hl : lim ≤ 1000) (ho : os.length ≤ 25) (h1 : ∀ o ∈ os, o.1 ≤ 1000 ∧ o.2.1 ∈ cls5 ∧ Lots o.2.2) : In big60 30000 6 (houseD sc lim os) := by
  have a : In big60 400 5 (.tup (sc.map frow)) := hs.inn.mono (by decide) (Nat.le_refl _) (Nat.le_refl _)
  have b : In big60 28000 5 (.tup (os.map obD)) := In.tup (P := 4) (fun d hd => by
    obtain ⟨o, ho', rfl⟩ := List.mem_map.mp hd
    obtain ⟨x, y, z⟩ := h1 o ho'
    have := ob_in x y z 2
    exact ⟨this.g, this.p⟩) (by
    have := sw_map_le obD 1100 (xs := os) fun o ho' => by
      obtain ⟨x, y, z⟩ := h1 o ho'
      exact (ob_in x y z 2).w
    refine Nat.le_trans this ?_
    omega)
  exact (in3 a (in_nat hl 5) b).mono (Nat.le_refl _) (by omega) (Nat.le_refl _)
/-- a drawn house -/
structure Dr (sc : List Form) (lim : Nat) (os : List Ob) : Prop where
  h : HouseOk sc lim os
  m : lim ≤ 6
  l : os.length ≤ 6
  v : ∀ o ∈ os, ∀ v ∈ o.2.2, Vl v
section
variable {sc : List Form} {lim : Nat} {os : List Ob}
theorem Dr.ob (h : Dr sc lim os) : ∀ o ∈ os, o.1 ≤ 1000 ∧ o.2.1 ∈ cls5 ∧ Lots o.2.2 ∧ o.2.2.length ≤ 4 := fun o ho => by
  obtain ⟨f, hf⟩ := Option.isSome_iff_exists.mp (formOf_isSome (h.h.c o ho))
  have l4 := (h.h.vl ho hf).2
  exact ⟨(h.h.mem o ho).2, (h.h.mem o ho).1, ⟨fun v hv => (h.v o ho v hv).it, by omega⟩, l4⟩
abbrev Rq (d : D) : Prop := In big60 60000 20 d
theorem told_rq {H : D} (h : In big60 30000 6 H) : Rq (Oc.told H).due := (in2 ((in_word (by decide +kernel : ("told" : Str) ∈ words) 6)) h).mono (Nat.le_refl _) (by omega) (by omega)
theorem step_rq {w : List D} {x : Str} (h : In big60 30000 6 (.tup w)) (hx : x ∈ words) : Rq (Oc.step w x).due := (in3 ((in_word (by decide +kernel : ("step" : Str) ∈ words) 6)) h (in_word hx 6)).mono (Nat.le_refl _) (by omega) (by omega)
theorem obj_rq {n : D} (h : In big60 30000 6 n) : Rq (Oc.obj n).due := (in2 ((in_word (by decide +kernel : ("object" : Str) ∈ words) 6)) h).mono (Nat.le_refl _) (by omega) (by omega)
theorem clsD_in : ∀ d ∈ clsD, gd big60 d = true ∧ wgt d ≤ 100 ∧ dep d ≤ 0 := by decide +kernel
theorem nums_in : ∀ d ∈ numsL, gd big60 d = true ∧ wgt d ≤ 100 ∧ dep d ≤ 1 := by decide +kernel
theorem labels_in : ∀ d ∈ labelsL, gd big60 d = true ∧ wgt d ≤ 100 ∧ dep d ≤ 1 := by decide +kernel
theorem made_rq {cls : D} {vs : List D} (h : Dr sc lim os) (hc : cls ∈ clsD) (hv : Lots vs) : Rq (madeO sc lim os cls vs).due := by
  obtain ⟨a, b, p0⟩ := clsD_in cls hc
  have st : ∀ x ∈ words, Rq (Oc.step [.str "make", cls, .tup vs] x).due := fun x hx => step_rq ((in3 (P := 5) (in_word (by decide +kernel : ("make" : Str) ∈ words) 5) (⟨a, b, Nat.le_trans p0 (by decide)⟩ : In big60 100 5 cls) (hv.inn 4)).mono (Nat.le_refl _) (by omega) (Nat.le_refl _)) hx
  cases cls <;> first
    | exact st "class" (by decide +kernel)
    | skip
  rename_i c
  cases e : formOf sc c with
  | none =>
    have o : madeO sc lim os (.str c) vs = .step [.str "make", .str c, .tup vs] "class" := by simp only [madeO, e]
    rw [o]
    exact st _ (by decide +kernel)
  | some f =>
    have o : madeO sc lim os (.str c) vs = if suitsL os f vs = true then .told (houseD sc (lim + 1) (os ++ [(lim, c, vs)])) else .step [.str "make", .str c, .tup vs] "values" := by simp only [madeO, e]
    rw [o]
    split
    · refine told_rq (house_in h.h.s (by have := h.m; omega) (by rw [List.length_append, List.length_singleton]; have := h.l; omega) fun o ho => ?_)
      rcases List.mem_append.mp ho with ho | ho
      · obtain ⟨x, y, z, _⟩ := h.ob o ho
        exact ⟨x, y, z⟩
      · rw [List.mem_singleton.mp ho]
        exact ⟨by show lim ≤ 1000; have := h.m; omega, h.h.s.cls c (List.mem_map.mpr ⟨(c, f), formOf_some e, rfl⟩), hv⟩
    · exact st _ (by decide +kernel)
theorem wv_rq {n label v : D} {o : Oc} (h : Dr sc lim os) (hn : n ∈ numsL) (hl : label ∈ labelsL) (hv : It v) (w : WV sc lim os n label v o) : Rq o.due := by
  obtain ⟨a, b, c⟩ := nums_in n hn
  obtain ⟨a', b', c'⟩ := labels_in label hl
  have hn5 : In big60 100 5 n := ⟨a, b, Nat.le_trans c (by decide)⟩
  have st : ∀ x ∈ words, Rq (Oc.step [.str "write", n, label, v] x).due := fun x hx => step_rq ((in4 (P := 5) (in_word (by decide +kernel : ("write" : Str) ∈ words) 5) hn5 (⟨a', b', Nat.le_trans c' (by decide)⟩ : In big60 100 5 label) (hv.inn 5)).mono (Nat.le_refl _) (by omega) (Nat.le_refl _)) hx
  cases w with
  | obj h1 => exact obj_rq (hn5.mono (Nat.le_refl _) (by omega) (by omega))
  | field _ _ _ _ => exact st _ (by decide +kernel)
  | value _ _ _ _ _ _ => exact st _ (by decide +kernel)
  | told e1 e2 e3 e4 e5 e6 =>
    rename_i i c f k q
    refine told_rq (house_in h.h.s (by have := h.m; omega) (by rw [wrote, List.length_map]; have := h.l; omega) fun o ho => ?_)
    obtain ⟨o', ho', rfl⟩ := List.mem_map.mp ho
    obtain ⟨x, y, z, l4⟩ := h.ob o' ho'
    unfold wr1
    split
    · refine ⟨x, y, fun d hd => ?_, ?_⟩
      · rcases List.mem_append.mp hd with hd | hd
        · rcases List.mem_append.mp hd with hd | hd
          · exact z.i d (List.mem_of_mem_take hd)
          · rw [List.mem_singleton.mp hd]; exact hv
        · exact z.i d (List.mem_of_mem_drop hd)
      · show (putAt k v o'.2.2).length ≤ 5
        rw [putAt, List.length_append, List.length_append, List.length_take, List.length_drop, List.length_singleton]; omega
    · exact ⟨x, y, z⟩
theorem dv_rq {n : D} {o : Oc} (h : Dr sc lim os) (hn : n ∈ numsL) (w : DV sc lim os n o) : Rq o.due := by
  obtain ⟨a, b, c⟩ := nums_in n hn
  have hn5 : In big60 100 5 n := ⟨a, b, Nat.le_trans c (by decide)⟩
  cases w with
  | obj h1 => exact obj_rq (hn5.mono (Nat.le_refl _) (by omega) (by omega))
  | told e1 e2 =>
    rename_i i c
    refine told_rq (house_in h.h.s (by have := h.m; omega) (by rw [dropO, List.length_map]; have := List.length_filter_le (fun o : Ob => !((o.1 : Int) == i)) os; have := h.l; omega) fun o ho => ?_)
    obtain ⟨o', ho', rfl⟩ := List.mem_map.mp ho
    obtain ⟨x, y, z, l4⟩ := h.ob o' (List.mem_filter.mp ho').1
    refine ⟨x, y, fun d hd => ?_, ?_⟩
    · obtain ⟨p, hp, rfl⟩ := List.mem_map.mp hd
      have hz := List.of_mem_zip (a := p.1) (b := p.2) (by simpa using hp)
      unfold unlD
      split
      · exact Vl.non.it
      · exact z.i _ hz.2
    · show (unl i _ o'.2.2).length ≤ 5
      rw [unl, List.length_map, List.length_zip]; omega
theorem Rq.repr {d : D} (h : Rq d) (S : Store) : reprD [d] S = .ok (.str (shw d)) S := repr_ok h.g (Nat.le_trans h.w (by decide)) (Nat.le_trans h.p (by decide))
theorem Rq.asc {d : D} (h : Rq d) : Fx.asc (shw d) := shown_asc _ h.g
/-! ### the law on making -/
theorem heard_eq {m m' : M D} {S : Store} {r : Rs D} (e : m S = m' S) (h : hM m' S = r) : heardM "told" tabs_LateError qf_law_outcome m S = r := by
  unfold hM heardM at h
  unfold heardM
  rw [e]; exact h
theorem mul_twoL {A : List D} {S : Store} (h : A.length ≤ 100) : mulD (.lst A) (.int 2) S = .ok (.lst (A ++ A)) S := by
  show repL A 2 S = _
  unfold repL
  rw [if_pos ⟨by decide, by decide, sz _ (by show A.length * 2 ≤ _; omega)⟩]
  simp [pur, List.replicate]
theorem making_ok {S R : Store} (h : Dr sc lim os) (hF : Fd S R) : ∃ S' R', g_law_making_right [.obj 0, houseD sc lim os] S = .ok (.bl true) S' ∧ Fd S' R' ∧ Ext R R' := by
  let H := houseD sc lim os
  let env0 : Fx.Env := ent 6 [.obj 0, H]
  let ns : List Str := sc.map (·.1)
  have l3 := h.h.s.len3
  have it0 : itf (bin ixD (getv 1) (fun _ => pur (.int 0))) env0 S = .ok (sc.map frow) S := rfl
  have c2 := cmp_map (vs := [3, 4]) (t := toTup (toCons (toN 3) (toCons (toN 4) toNil))) (el := getv 3) (env := env0) frow (fun f => D.str f.1) sc it0 (fun f hf => ⟨[some (.obj 0), some H, none, some (.str f.1), some (.tup (f.2.map row)), none], rfl, getv_ok rfl⟩) (by omega)
  let A : List D := sc.map fun f => D.str f.1
  let B : List D := [.str "zz", .str "", .non, .int 0]
  have al : A.length ≤ 3 := by rw [List.length_map]; exact l3
  have qx : (bin (addD mkL) (bin mulD (cmp [3, 4] mkL (itf (bin ixD (getv 1) (fun _ => pur (.int 0)))) (toTup (toCons (toN 3) (toCons (toN 4) toNil))) (fun _ => pur true) (getv 3)) (fun _ => pur (.int 2))) (dsp mkL (cns (fun _ => pur (.str "zz")) (cns (fun _ => pur (.str "")) (cns (fun _ => pur .non) (cns (fun _ => pur (.int 0)) (fun _ => pur []))))))) env0 S = .ok (.lst ((A ++ A) ++ B)) S := (bin_ok (g := addD mkL) ((bink (g := mulD) (d := .int 2) c2).trans (mul_twoL (by show A.length ≤ 100; omega))) (b := .lst B) rfl).trans (addL (by rw [List.length_append]; show A.length + A.length + 4 ≤ 3000; omega))
  obtain ⟨cls, S1, hcm, hF1, e1⟩ := anyn (i := 0) (env := env0) rfl qx (by rw [List.length_append]; show 0 < _ + 4; omega) (by rw [List.length_append, List.length_append]; show A.length + A.length + 4 < 1000000; omega) hF
  have hc : cls ∈ clsD := by
    have hA : ∀ x ∈ A, x ∈ clsD := fun x hx => by
      obtain ⟨f, hf, rfl⟩ := List.mem_map.mp hx
      have := h.h.c3 f hf
      simp only [cls3, List.mem_cons, List.not_mem_nil, or_false] at this
      rcases this with e | e | e <;> rw [e] <;> simp [clsD]
    rcases List.mem_append.mp hcm with h1 | h1
    · rcases List.mem_append.mp h1 with h1 | h1 <;> exact hA _ h1
    · simp only [B, List.mem_cons, List.not_mem_nil, or_false] at h1
      rcases h1 with rfl | rfl | rfl | rfl <;> simp [clsD]
  let env1 : Fx.Env := [some (.obj 0), some H, some cls, none, none, none]
  have s2 : Fx.set 2 (cal (cns (getv 0) (cns (bin (addD mkL) (bin mulD (cmp [3, 4] mkL (itf (bin ixD (getv 1) (fun _ => pur (.int 0)))) (toTup (toCons (toN 3) (toCons (toN 4) toNil))) (fun _ => pur true) (getv 3)) (fun _ => pur (.int 2))) (dsp mkL (cns (fun _ => pur (.str "zz")) (cns (fun _ => pur (.str "")) (cns (fun _ => pur .non) (cns (fun _ => pur (.int 0)) (fun _ => pur []))))))) (fun _ => pur []))) g_law_any) env0 S = .ok (.nx env1) S1 := set_ok e1
  have ci := tst_ok (isi_str (i := 2) (env := env1) (S := S1) (clsD_cl cls hc).1 rfl)
  obtain ⟨c, e3⟩ : ∃ c : Str, iteV (tst (isi "str" (getv 2))) (getv 2) (fun _ => pur (.str "zz")) env1 S1 = .ok (.str c) S1 := by
    cases hi : isStr cls with
    | true =>
      rw [hi] at ci
      obtain ⟨c, rfl⟩ : ∃ c, cls = .str c := by
        cases cls <;> first
          | exact ⟨_, rfl⟩
          | cases hi
      exact ⟨c, (ite_t ci).trans (getv_ok rfl)⟩
    | false =>
      rw [hi] at ci
      exact ⟨"zz", (ite_f ci).trans rfl⟩
  obtain ⟨vs, S2, R2, e4, hL, hF2, hE2⟩ := some_lots_ok (c := c) h.h hF1
  let env2 : Fx.Env := [some (.obj 0), some H, some cls, none, none, some (.tup vs)]
  have s5 : Fx.set 5 (cal (cns (getv 0) (cns (getv 1) (cns (iteV (tst (isi "str" (getv 2))) (getv 2) (fun _ => pur (.str "zz"))) (fun _ => pur [])))) g_law_some_lots) env1 S1 = .ok (.nx env2) S2 := set_ok ((cal3_ok (g := g_law_some_lots) (getv_ok (i := 0) rfl) (getv_ok (i := 1) rfl) e3).trans e4)
  let o := madeO sc lim os cls vs
  have hq : Rq o.due := made_rq h hc hL
  obtain ⟨S3, e5, A3⟩ := (law_make_ok S2 h.h (clsD_cl cls hc) hL.vs).heard
  obtain ⟨S4, e6, A4⟩ := made_due_ok S3 h.h hc hL.vs
  have h1 : (fun env => heardM "told" tabs_LateError qf_law_outcome ((cal (cns (getv 1) (cns (getv 2) (cns (getv 5) (fun _ => pur [])))) g_law_make) env)) env2 S2 = .ok o.due S3 := heard_eq (cal3_ok (g := g_law_make) (getv_ok (i := 1) rfl) (getv_ok (i := 2) rfl) (getv_ok (i := 5) rfl)) e5
  have r1 := (cal1_okS (g := reprD) (f := (fun env => heardM "told" tabs_LateError qf_law_outcome ((cal (cns (getv 1) (cns (getv 2) (cns (getv 5) (fun _ => pur [])))) g_law_make) env))) (env := env2) (S := S2) h1).trans (hq.repr S3)
  have r2 := (cal1_okS (g := reprD) ((cal3_ok (g := g_law_made_due) (f1 := getv 1) (f2 := getv 2) (f3 := getv 5) (env := env2) (S := S3) (getv_ok rfl) (getv_ok rfl) (getv_ok rfl)).trans e6)).trans (hq.repr S4)
  obtain ⟨R4, hF4, hE4⟩ := Fd.after hF2 (A3.trans A4)
  exact ⟨S4, R4, body_rt (b := b_law_making_right) rfl ((seq_nx s2).trans ((seq_nx s5).trans (ret_okS ((bin_okS (g := eqD) r1 r2).trans (str_eq hq.asc))))), hF4, hE2.trans hE4⟩
end
end K18

end
/-! ## K18q -/
section
namespace K18
variable [Fx.Tabl]
open PySem Fx
open L2 (atI ixN Key)
/-! ### the law on writing and dropping is right -/
theorem cal4_ok {f1 f2 f3 f4 : Fx.Env → M D} {g : List D → M D} {env : Fx.Env} {S : Store} {a b c d : D} (h1 : f1 env S = .ok a S) (h2 : f2 env S = .ok b S) (h3 : f3 env S = .ok c S) (h4 : f4 env S = .ok d S) : cal (cns f1 (cns f2 (cns f3 (cns f4 (fun _ => pur []))))) g env S = g [a, b, c, d] S := by
  simp only [cal, cns, bd, h1, h2, h3, h4, pur]
theorem pair_ok {i : Nat} {e1 e2 : Fx.Env → M D} {g : Fx.Env → MS} {env : Fx.Env} {S : Store} {x : D} (hi : i < env.length) (h1 : ∃ S1, e1 env S = .ok x S1 ∧ After S S1) (h2 : ∀ (p : Nat) (T : Store), ∃ T', e2 (env.set i (some (.obj p))) T = .ok x T' ∧ After T T') :
    ∃ (P L : Store), After S P ∧ seqS (Fx.set i (dsp mkN (cns e1 (fun _ => pur [])))) (seqS (Fx.drop (met (getv i) (cns e2 (fun _ => pur [])) appD)) g) env S = g (env.set i (some (.obj P.length))) (P ++ some (.lst [x, x]) :: L) := by
  obtain ⟨P, c1, A1⟩ := h1
  have mk : dsp mkN (cns e1 (fun _ => pur [])) env S = .ok (.obj P.length) (P ++ [some (.lst [x])]) := by
    rw [dsp]
    simp only [cns, bd, c1, pur, mkN]
    rw [if_pos (show [x].length ≤ sizeLine from sz 1 (by decide))]; rfl
  have s1 := set_ok (i := i) mk
  obtain ⟨T', c2, L, rfl⟩ := h2 P.length (P ++ [some (.lst [x])])
  have e : P ++ [some (OD.lst [x])] ++ L = P ++ some (.lst [x]) :: L := by simp
  rw [e] at c2
  have ap := app_mid (i := i) (env := env.set i (some (.obj P.length))) (P := P) (L := []) (L' := L) (xs0 := [x]) (xs := [x]) (y := x) (by rw [List.getElem?_set_self hi]) c2 (by simp)
  exact ⟨P, L, A1, (seq_nx s1).trans (seq_nx ap)⟩
theorem two_gd {x : Str} (h : Fx.asc x) : gd 0 (.lst [.str x, .str x]) = true := by
  have : gd 0 (.str x) = true := by rw [gd]; exact all_lt.mpr h
  rw [gd, gds_mem]
  simp [this]
theorem two_eqP (x : Str) : eqP (.lst [.str x, .str x]) (.lst [.str x, .str x]) = true := by simp [eqP, py, pys, PyData.eqv, PyData.eqvAll]
theorem two_dep (x : Str) : dep (.lst [.str x, .str x]) ≤ 64 := by show 1 ≤ 64; decide
theorem ne_two {x : Str} (h : Fx.asc x) (P L : Store) : neD (.obj P.length) (.lst [.str x, .str x]) (P ++ some (.lst [.str x, .str x]) :: L) = .ok (.bl false) (P ++ some (.lst [.str x, .str x]) :: L) := by
  have e : pyM (.obj P.length) (P ++ some (.lst [.str x, .str x]) :: L) = pyM (.lst [.str x, .str x]) (P ++ some (.lst [.str x, .str x]) :: L) := by
    have hp : (P ++ some (OD.lst [.str x, .str x]) :: L)[P.length]? = some (some (.lst [.str x, .str x])) := by simp
    simp only [pyM, hp]
    rfl
  have g := two_gd h
  have n := neD_eq (S := P ++ some (.lst [.str x, .str x]) :: L) g g (two_dep x) (two_dep x)
  rw [two_eqP] at n
  unfold neD at n ⊢
  simp only [bd] at n ⊢
  rw [e]; exact n
theorem eq_two {x : Str} (h : Fx.asc x) (S : Store) : eqD (.lst [.str x, .str x]) (.lst [.str x, .str x]) S = .ok (.bl true) S := by
  have g := two_gd h
  have n := eqD_eq (S := S) g g (two_dep x) (two_dep x)
  rw [two_eqP] at n
  exact n
theorem two_dsp {i : Nat} {x : D} {env : Fx.Env} {S : Store} (h : env[i]? = some (some x)) : dsp mkL (cns (getv i) (cns (getv i) (fun _ => pur []))) env S = .ok (.lst [x, x]) S := by
  have g : getv i env S = .ok x S := getv_ok h
  rw [dsp]
  simp only [cns, bd, g, pur]
  exact mkL_ok (sz 2 (by decide))
section
variable {sc : List Form} {lim : Nat} {os : List Ob}
theorem others_ok {S R : Store} (h : Dr sc lim os) (hF : Fd S R) : ∃ S' R', g_law_others_right [.obj 0, houseD sc lim os] S = .ok (.bl true) S' ∧ Fd S' R' ∧ Ext R R' := by
  let H := houseD sc lim os
  let env0 : Fx.Env := ent 7 [.obj 0, H]
  obtain ⟨n, S1, e1, hn, hF1⟩ := some_number_ok h.h hF
  let env1 : Fx.Env := [some (.obj 0), some H, some n, none, none, none, none]
  have s2 : Fx.set 2 (cal (cns (getv 0) (cns (getv 1) (fun _ => pur []))) g_law_some_number) env0 S = .ok (.nx env1) S1 := set_ok ((cal2_ok (g := g_law_some_number) (getv_ok (i := 0) rfl) (getv_ok (i := 1) rfl)).trans e1)
  obtain ⟨label, S2, R2, e2, hl, hF2, hE2⟩ := some_label_ok h.h hn hF1
  obtain ⟨v, S3, e3, hv, hF3⟩ := some_item_ok h.h hF2
  let env2 : Fx.Env := [some (.obj 0), some H, some n, some label, some v, none, none]
  have s3 : (asg (dsp mkT (cns (cal (cns (getv 0) (cns (getv 1) (cns (getv 2) (fun _ => pur [])))) g_law_some_label) (cns (cal (cns (getv 0) (cns (getv 1) (fun _ => pur []))) g_law_some_item) (fun _ => pur [])))) (toTup (toCons (toN 3) (toCons (toN 4) toNil)))) env1 S1 = .ok (.nx env2) S3 := by
    have a := (cal3_ok (g := g_law_some_label) (getv_ok (i := 0) (env := env1) (S := S1) rfl) (getv_ok (i := 1) rfl) (getv_ok (i := 2) rfl)).trans e2
    have b := (cal2_ok (g := g_law_some_item) (getv_ok (i := 0) (env := env1) (S := S2) rfl) (getv_ok (i := 1) rfl)).trans e3
    simp only [asg, lft, dsp2 a b]; rfl
  have hv2 : gd big60 v = true ∧ flatP v = true := ⟨hv.g, hv.f⟩
  obtain ⟨o, w⟩ := wv h.h n label v
  have hq : Rq o.due := wv_rq h hn hl hv w
  obtain ⟨ng, ng2, _, nd⟩ := nums_ok n hn
  obtain ⟨lg, lg2, _, ld⟩ := labels_ok label hl
  obtain ⟨S4, e4, A4⟩ := written_due_ok S3 h.h hn hl hv2 w
  let x : Str := shw o.due
  let env3 : Fx.Env := [some (.obj 0), some H, some n, some label, some v, some (.str x), none]
  have s5 : Fx.set 5 (cal (cns (cal (cns (getv 1) (cns (getv 2) (cns (getv 3) (cns (getv 4) (fun _ => pur []))))) g_law_written_due) (fun _ => pur [])) reprD) env2 S3 = .ok (.nx env3) S4 := set_ok ((cal1_okS (g := reprD) ((cal4_ok (g := g_law_written_due) (f1 := getv 1) (f2 := getv 2) (f3 := getv 3) (f4 := getv 4) (env := env2) (S := S3) (getv_ok rfl) (getv_ok rfl) (getv_ok rfl) (getv_ok rfl)).trans e4)).trans (hq.repr S4))
  have hw : ∀ T, ∃ T', hM (g_written [H, n, label, v]) T = .ok o.due T' ∧ After T T' := fun T => (written_ok T h.h ng ⟨lg, ld⟩ hv2 w).heard
  obtain ⟨P, L, A5, e5⟩ := pair_ok (i := 6) (e1 := (cal (cns (fun env => heardM "told" tabs_LateError qf_law_outcome ((cal (cns (getv 1) (cns (getv 2) (cns (getv 3) (cns (getv 4) (fun _ => pur []))))) g_written) env)) (fun _ => pur [])) reprD)) (e2 := (cal (cns (fun env => heardM "told" tabs_LateError qf_law_outcome ((calK 4 [3, 2, 1, 0] (cns (getv 4) (cns (getv 3) (cns (getv 2) (cns (getv 1) (fun _ => pur []))))) g_written) env)) (fun _ => pur [])) reprD)) (g := (seqS (ifS (tst (bin neD (getv 6) (dsp mkL (cns (getv 5) (cns (getv 5) (fun _ => pur [])))))) (Fx.ret (fun _ => pur (.bl false))) pass) (seqS (Fx.set 5 (cal (cns (cal (cns (getv 1) (cns (getv 2) (fun _ => pur []))) g_law_dropped_due) (fun _ => pur [])) reprD)) (seqS (Fx.set 6 (dsp mkN (cns (cal (cns (fun env => heardM "told" tabs_LateError qf_law_outcome ((cal (cns (getv 1) (cns (getv 2) (fun _ => pur []))) g_dropped) env)) (fun _ => pur [])) reprD) (fun _ => pur [])))) (seqS (Fx.drop (met (getv 6) (cns (cal (cns (fun env => heardM "told" tabs_LateError qf_law_outcome ((calK 2 [1, 0] (cns (getv 2) (cns (getv 1) (fun _ => pur []))) g_dropped) env)) (fun _ => pur [])) reprD) (fun _ => pur [])) appD)) (frzV 6 (Fx.ret (bin eqD (getv 6) (dsp mkL (cns (getv 5) (cns (getv 5) (fun _ => pur [])))))))))))) (env := env3) (S := S4) (x := .str x) (by show 6 < 7; decide) (by
      obtain ⟨T', c, A⟩ := hw S4
      have h1 : (fun env => heardM "told" tabs_LateError qf_law_outcome ((cal (cns (getv 1) (cns (getv 2) (cns (getv 3) (cns (getv 4) (fun _ => pur []))))) g_written) env)) env3 S4 = .ok o.due T' := heard_eq (cal4_ok (g := g_written) (getv_ok (i := 1) rfl) (getv_ok (i := 2) rfl) (getv_ok (i := 3) rfl) (getv_ok (i := 4) rfl)) c
      exact ⟨T', (cal1_okS (g := reprD) (f := (fun env => heardM "told" tabs_LateError qf_law_outcome ((cal (cns (getv 1) (cns (getv 2) (cns (getv 3) (cns (getv 4) (fun _ => pur []))))) g_written) env))) (env := env3) (S := S4) h1).trans (hq.repr T'), A⟩) (fun p T => by
      obtain ⟨T', c, A⟩ := hw T
      have h1 : (fun env => heardM "told" tabs_LateError qf_law_outcome ((calK 4 [3, 2, 1, 0] (cns (getv 4) (cns (getv 3) (cns (getv 2) (cns (getv 1) (fun _ => pur []))))) g_written) env)) (env3.set 6 (some (.obj p))) T = .ok o.due T' := heard_eq (show calK 4 [3, 2, 1, 0] (cns (getv 4) (cns (getv 3) (cns (getv 2) (cns (getv 1) (fun _ => pur []))))) g_written (env3.set 6 (some (.obj p))) T = g_written [H, n, label, v] T from rfl) c
      exact ⟨T', (cal1_okS (g := reprD) (f := (fun env => heardM "told" tabs_LateError qf_law_outcome ((calK 4 [3, 2, 1, 0] (cns (getv 4) (cns (getv 3) (cns (getv 2) (cns (getv 1) (fun _ => pur []))))) g_written) env))) (env := env3.set 6 (some (.obj p))) (S := T) h1).trans (hq.repr T'), A⟩)
  let S5 : Store := P ++ some (.lst [.str x, .str x]) :: L
  let env4 : Fx.Env := [some (.obj 0), some H, some n, some label, some v, some (.str x), some (.obj P.length)]
  have t1 : (tst (bin neD (getv 6) (dsp mkL (cns (getv 5) (cns (getv 5) (fun _ => pur [])))))) env4 S5 = .ok false S5 := tst_ok ((bin_ok (g := neD) (getv_ok (i := 6) (env := env4) (S := S5) rfl) (two_dsp (i := 5) rfl)).trans (ne_two hq.asc P L))
  have A45 : After S4 S5 := A5.add _
  obtain ⟨o2, w2⟩ := dv h.h n
  have hq2 : Rq o2.due := dv_rq h hn w2
  obtain ⟨S6, e6, A6⟩ := dropped_due_ok S5 h.h hn w2
  let y : Str := shw o2.due
  let env5 : Fx.Env := [some (.obj 0), some H, some n, some label, some v, some (.str y), some (.obj P.length)]
  have s6 : Fx.set 5 (cal (cns (cal (cns (getv 1) (cns (getv 2) (fun _ => pur []))) g_law_dropped_due) (fun _ => pur [])) reprD) env4 S5 = .ok (.nx env5) S6 := set_ok ((cal1_okS (g := reprD) ((cal2_ok (g := g_law_dropped_due) (f1 := getv 1) (f2 := getv 2) (env := env4) (S := S5) (getv_ok rfl) (getv_ok rfl)).trans e6)).trans (hq2.repr S6))
  have hd : ∀ T, ∃ T', hM (g_dropped [H, n]) T = .ok o2.due T' ∧ After T T' := fun T => (dropped_ok T h.h ng w2).heard
  obtain ⟨P2, L2, A7, e7⟩ := pair_ok (i := 6) (e1 := (cal (cns (fun env => heardM "told" tabs_LateError qf_law_outcome ((cal (cns (getv 1) (cns (getv 2) (fun _ => pur []))) g_dropped) env)) (fun _ => pur [])) reprD)) (e2 := (cal (cns (fun env => heardM "told" tabs_LateError qf_law_outcome ((calK 2 [1, 0] (cns (getv 2) (cns (getv 1) (fun _ => pur []))) g_dropped) env)) (fun _ => pur [])) reprD)) (g := (frzV 6 (Fx.ret (bin eqD (getv 6) (dsp mkL (cns (getv 5) (cns (getv 5) (fun _ => pur [])))))))) (env := env5) (S := S6) (x := .str y) (by show 6 < 7; decide) (by
      obtain ⟨T', c, A⟩ := hd S6
      have h1 : (fun env => heardM "told" tabs_LateError qf_law_outcome ((cal (cns (getv 1) (cns (getv 2) (fun _ => pur []))) g_dropped) env)) env5 S6 = .ok o2.due T' := heard_eq (cal2_ok (g := g_dropped) (getv_ok (i := 1) rfl) (getv_ok (i := 2) rfl)) c
      exact ⟨T', (cal1_okS (g := reprD) (f := (fun env => heardM "told" tabs_LateError qf_law_outcome ((cal (cns (getv 1) (cns (getv 2) (fun _ => pur []))) g_dropped) env))) (env := env5) (S := S6) h1).trans (hq2.repr T'), A⟩) (fun p T => by
      obtain ⟨T', c, A⟩ := hd T
      have h1 : (fun env => heardM "told" tabs_LateError qf_law_outcome ((calK 2 [1, 0] (cns (getv 2) (cns (getv 1) (fun _ => pur []))) g_dropped) env)) (env5.set 6 (some (.obj p))) T = .ok o2.due T' := heard_eq (show calK 2 [1, 0] (cns (getv 2) (cns (getv 1) (fun _ => pur []))) g_dropped (env5.set 6 (some (.obj p))) T = g_dropped [H, n] T from rfl) c
      exact ⟨T', (cal1_okS (g := reprD) (f := (fun env => heardM "told" tabs_LateError qf_law_outcome ((calK 2 [1, 0] (cns (getv 2) (cns (getv 1) (fun _ => pur []))) g_dropped) env))) (env := env5.set 6 (some (.obj p))) (S := T) h1).trans (hq2.repr T'), A⟩)
  let S8 : Store := P2 ++ none :: L2
  let env6 : Fx.Env := [some (.obj 0), some H, some n, some label, some v, some (.str y), some (.lst [.str y, .str y])]
  have r8 : bin eqD (getv 6) (dsp mkL (cns (getv 5) (cns (getv 5) (fun _ => pur [])))) env6 S8 = .ok (.bl true) S8 := (bin_ok (g := eqD) (getv_ok (i := 6) rfl) (two_dsp (i := 5) rfl)).trans (eq_two hq2.asc S8)
  have A8 : After S3 S8 := ((A4.trans A45).trans (A6.trans A7)).add _
  obtain ⟨R8, hF8, hE8⟩ := Fd.after hF3 A8
  refine ⟨S8, R8, body_rt (b := b_law_others_right) rfl ((seq_nx s2).trans ((seq_nx s3).trans ((seq_nx s5).trans (e5.trans ((if_no t1).trans ((seq_nx s6).trans (e7.trans ((frz_mid (i := 6) rfl).trans (ret_ok r8))))))))), hF8, hE2.trans hE8⟩
end
end K18

end
/-! ## K18r -/
section
namespace K18
variable [Fx.Tabl]
open PySem Fx
open L2 (atI ixN Key)
theorem merge4 (x a l c : D) : mergeD [] ([.inr "cells", .inr "at", .inr "left", .inr "count"].zip [x, a, l, c]) = kvs x a l c := by
  simp only [List.zip_cons_cons, List.zip_nil_right, mergeD, List.foldl_cons, List.foldl_nil, kvs]
  simp only [putD, List.any_nil, List.any_cons, Bool.false_eq_true, if_false, List.nil_append, List.cons_append, decide_eq_false n12, decide_eq_false n13, decide_eq_false n14, decide_eq_false n23, decide_eq_false n24, decide_eq_false n34, Bool.or_false]
abbrev S00 (ns : List Int) : Store := St (.lst (ns.map .int)) (.int 0) (.int 0) (.int 0) []
theorem feed_ok {ns : List Int} (h : ns.length ≤ 63) : Fd (S00 ns) [] ∧ g_law_feed [.scr ns] [] = .ok (.obj 0) (S00 ns) := by
  refine ⟨⟨ns, 0, 0, 0, h, rfl⟩, body_rt (b := b_law_feed) rfl (ret_okS ?_)⟩
  have c := cut_all (ds := ns.map D.int) (s := 63) (by simpa using h)
  have c : cutD (ns.map D.int) none (some 63) = ns.map D.int := c
  have l : (ns.map D.int).length ≤ sizeLine := sz _ (by simp; omega)
  have e : slc (getv 0) (fun _ => pur none) (fun env => bd ((fun _ => pur (.int 63)) env) intOf) (ent 1 [.scr ns]) [] = .ok (.lst (ns.map D.int)) [] := by
    have g : getv 0 (ent 1 [.scr ns]) [] = .ok (.scr ns) [] := getv_ok rfl
    simp only [slc, bd, g, pur, intOf]
    show (if (ns.map D.int).length ≤ sizeLine then pur (D.lst (cutD (ns.map D.int) none (some 63))) else mno : M D) [] = _
    rw [if_pos l, c]; rfl
  have e2 := cal1_ok (g := listD mkL) e
  have e3 : listD mkL [.lst (ns.map D.int)] [] = .ok (.lst (ns.map D.int)) [] := by
    show mkL (ns.map D.int) [] = _
    exact mkL_ok l
  rw [e3] at e2
  simp only [dspD, bd, cns, e2, pur, merge4, mkO]; rfl
theorem pyDs_ints : ∀ ns : List Int, pyDs (ns.map D.int) = some (ns.map PyData.int)
  | [] => rfl
  | n :: ns => by rw [List.map_cons]; simp only [pyDs, pyD, pyDs_ints ns]; rfl
theorem ne_scr (ns : List Int) (S : Store) : neD (.scr ns) (.lst []) S = .ok (.bl (!ns.isEmpty)) S := by
  have e : pyM (.scr ns) S = pyM (.lst (ns.map D.int)) S := by
    show _ = opt (pyD (.lst (ns.map D.int))) S
    simp only [pyD, pyDs_ints]; rfl
  have h := ne_cells ns S
  unfold neD at h ⊢
  simp only [bd] at h ⊢
  rw [e]; exact h
theorem laps_ok (ns : List Int) (S : Store) : ∃ n : Nat, n ≤ 5 ∧ g_law_laps [.scr ns, .int 5] S = .ok (.int (n : Nat)) S := by
  let env : Fx.Env := [some (.scr ns), some (.int 5)]
  have c := tst_ok ((bin_ok (g := neD) (getv_ok (i := 0) (env := env) (S := S) rfl) (nilL _ _)).trans (ne_scr ns S))
  cases hb : ns.isEmpty with
  | true => rw [hb] at c; exact ⟨1, by decide, body_rt (b := b_law_laps) rfl (ret_ok ((ite_f c).trans rfl))⟩
  | false => rw [hb] at c; exact ⟨5, by decide, body_rt (b := b_law_laps) rfl (ret_ok ((ite_t c).trans rfl))⟩
/-! ### the store by hand -/
def docS : List Form := [("box", [("lid", .str "lid"), ("size", .tup [.int 0, .int 9])]), ("lid", [("of", .str "box"), ("w", .tup [.int 0, .int 5])])]
def docO : List Ob := [(0, "box", [.int 1, .int 4]), (1, "lid", [.int 0, .int 5]), (2, "box", [.non, .int 9])]
def docH : D := houseD docS 3 docO
def docC : D := .tup [.tup [.str "box", .tup [.tup [.str "area", .tup [.int 0, .int 50]], .tup [.str "lid", .str "lid"]], .tup [.tup [.str "*", .tup [.str "get", .tup [.str "size"], .int 0], .tup [.str "get", .tup [.str "lid", .str "w"], .int 1]], .tup [.str "to", .tup [.str "lid"]]]]]
theorem doc_run (S : Store) : g_law_document [] S = .ok (.tup [docH, docC]) S := by kernel_rfl
def docD : D := .tup [.str "told", houseD docS 3 [(0, "box", [.non, .int 4]), (2, "box", [.non, .int 9])]]
theorem doc_drop (ns : List Int) : g_dropped [docH, .int 1] (S00 ns) = .ok (houseD docS 3 [(0, "box", [.non, .int 4]), (2, "box", [.non, .int 9])]) (S00 ns ++ [some (.dct (docO.map ckv)), some (.dct (docS.map fkv))]) := by kernel_rfl
theorem docD_gd : gd 1000 docD = true ∧ dep docD ≤ 64 ∧ eqP docD docD = true := by decide +kernel
/-! ### the law -/
def bSix : Fx.Env → MS := (ifS (orB (notB (tst (cal (cns (getv 1) (cns (getv 2) (fun _ => pur []))) g_law_making_right))) (notB (tst (cal (cns (getv 1) (cns (getv 2) (fun _ => pur []))) g_law_others_right)))) (Fx.ret (fun _ => pur (.bl false))) pass)
abbrev envL (ns : List Int) (z2 z3 z4 z5 z6 z7 : Option D) : Fx.Env := [some (.scr ns), some (.obj 0), z2, z3, z4, z5, z6, z7]
section
variable {sc : List Form} {lim : Nat} {os : List Ob}
theorem six_loop {ns : List Int} {z3 z4 z5 z6 : Option D} (h : Dr sc lim os) : ∀ (ds : List D) (z7 : Option D) (S R : Store), Fd S R → ∃ y7 S' R', loop (toN 7) bSix ds (envL ns (some (houseD sc lim os)) z3 z4 z5 z6 z7) S = .ok (.nx (envL ns (some (houseD sc lim os)) z3 z4 z5 z6 y7)) S' ∧ Fd S' R'
  | [], z7, S, R, hF => ⟨z7, S, R, rfl, hF⟩
  | d :: ds, z7, S, R, hF => by
    let env : Fx.Env := envL ns (some (houseD sc lim os)) z3 z4 z5 z6 (some d)
    obtain ⟨S1, R1, e1, hF1, _⟩ := making_ok h hF
    obtain ⟨S2, R2, e2, hF2, _⟩ := others_ok h hF1
    have t1 := notB_ok (tst_ok ((cal2_ok (g := g_law_making_right) (f1 := getv 1) (f2 := getv 2) (env := env) (S := S) (getv_ok rfl) (getv_ok rfl)).trans e1))
    have t2 := notB_ok (tst_ok ((cal2_ok (g := g_law_others_right) (f1 := getv 1) (f2 := getv 2) (env := env) (S := S1) (getv_ok rfl) (getv_ok rfl)).trans e2))
    have st : bSix env S = .ok (.nx env) S2 := (ifS_f ((or_f t1).trans t2)).trans rfl
    obtain ⟨y7, S', R', e3, hF3⟩ := six_loop (ns := ns) (z3 := z3) (z4 := z4) (z5 := z5) (z6 := z6) h ds (some d) S2 R2 hF2
    refine ⟨y7, S', R', ?_, hF3⟩
    unfold loop
    have ht : toN 7 d (envL ns (some (houseD sc lim os)) z3 z4 z5 z6 z7) = some env := rfl
    simp only [ht, st]
    exact e3
end
def bLap : Fx.Env → MS := (seqS (Fx.set 2 (cal (cns (getv 1) (cns (cal (cns (getv 1) (fun _ => pur [])) g_law_classes) (cns (fun _ => pur (.int 6)) (fun _ => pur [])))) g_law_house)) (seqS (Fx.set 6 (cal (cns (getv 2) (fun _ => pur [])) reprD)) (seqS (forS (itr1 (cns (fun _ => pur (.int 6)) (fun _ => pur []))) (toN 7) (ifS (orB (notB (tst (cal (cns (getv 1) (cns (getv 2) (fun _ => pur []))) g_law_making_right))) (notB (tst (cal (cns (getv 1) (cns (getv 2) (fun _ => pur []))) g_law_others_right)))) (Fx.ret (fun _ => pur (.bl false))) pass)) (ifS (tst (bin neD (cal (cns (getv 2) (fun _ => pur [])) reprD) (getv 6))) (Fx.ret (fun _ => pur (.bl false))) pass))))
theorem lap_step {ns : List Int} {z2 z3 z4 z5 z6 z7 : Option D} {S R : Store} (hF : Fd S R) :
    ∃ (y2 y6 y7 : Option D) (S' R' : Store), bLap (envL ns z2 z3 z4 z5 z6 z7) S = .ok (.nx (envL ns y2 z3 z4 z5 y6 y7)) S' ∧ Fd S' R' := by
  obtain ⟨sc, S1, R1, e1, hsc, hF1, _⟩ := classes_ok hF
  obtain ⟨lim, os, S2, R2, e2, hH, hlim, hos, hv, hF2, _⟩ := house_ok hsc hF1
  have hd : Dr sc lim os := ⟨hH, hlim, hos, hv⟩
  let H := houseD sc lim os
  have c1 := (cal1_ok (g := g_law_classes) (getv_ok (i := 1) (env := envL ns z2 z3 z4 z5 z6 z7) (S := S) rfl)).trans e1
  have s2 : Fx.set 2 (cal (cns (getv 1) (cns (cal (cns (getv 1) (fun _ => pur [])) g_law_classes) (cns (fun _ => pur (.int 6)) (fun _ => pur [])))) g_law_house) (envL ns z2 z3 z4 z5 z6 z7) S = .ok (.nx (envL ns (some H) z3 z4 z5 z6 z7)) S2 := set_ok ((cal3_mid (g := g_law_house) (f3 := fun _ => pur (.int 6)) (c := .int 6) (getv_ok (i := 1) rfl) c1 rfl).trans e2)
  have hr : Rq H := (house_in hsc (by omega) (by omega) fun o ho => by
    obtain ⟨x, y, z, _⟩ := hd.ob o ho
    exact ⟨x, y, z⟩).mono (Nat.le_refl _) (by omega) (by omega)
  have s6 : Fx.set 6 (cal (cns (getv 2) (fun _ => pur [])) reprD) (envL ns (some H) z3 z4 z5 z6 z7) S2 = .ok (.nx (envL ns (some H) z3 z4 z5 (some (.str (shw H))) z7)) S2 := set_ok ((cal1_ok (g := reprD) (getv_ok (i := 2) rfl)).trans (hr.repr S2))
  let e6 := envL ns (some H) z3 z4 z5 (some (.str (shw H))) z7
  have it : itr1 (cns (fun _ => pur (.int 6)) (fun _ => pur [])) e6 S2 = .ok (rng 0 (6 : Nat)) S2 := itr1_len (n := 6) rfl (by decide)
  obtain ⟨y7, S3, R3, e3, hF3⟩ := six_loop (ns := ns) (z3 := z3) (z4 := z4) (z5 := z5) (z6 := some (.str (shw H))) hd (rng 0 (6 : Nat)) z7 S2 R2 hF2
  have c7 := tst_ok ((bin_ok (g := neD) ((cal1_ok (g := reprD) (getv_ok (i := 2) (env := envL ns (some H) z3 z4 z5 (some (.str (shw H))) y7) (S := S3) rfl)).trans (hr.repr S3)) (getv_ok (i := 6) rfl)).trans (str_ne hr.asc))
  exact ⟨_, _, _, S3, R3, (seq_nx s2).trans ((seq_nx s6).trans ((seq_nx ((for_ok it).trans e3)).trans ((ifS_f c7).trans rfl))), hF3⟩
theorem lap_loop {ns : List Int} {z3 z4 : Option D} : ∀ (ds : List D) (z2 z5 z6 z7 : Option D) (S R : Store), Fd S R → ∃ env' S', loop (toN 5) bLap ds (envL ns z2 z3 z4 z5 z6 z7) S = .ok (.nx env') S'
  | [], z2, z5, z6, z7, S, R, _ => ⟨_, S, rfl⟩
  | d :: ds, z2, z5, z6, z7, S, R, hF => by
    obtain ⟨y2, y6, y7, S1, R1, e1, hF1⟩ := lap_step (ns := ns) (z2 := z2) (z3 := z3) (z4 := z4) (z5 := some d) (z6 := z6) (z7 := z7) hF
    obtain ⟨env', S2, e2⟩ := lap_loop (z3 := z3) (z4 := z4) ds y2 (some d) y6 y7 S1 R1 hF1
    refine ⟨env', S2, ?_⟩
    unfold loop
    have ht : toN 5 d (envL ns z2 z3 z4 z5 z6 z7) = some (envL ns z2 z3 z4 (some d) z6 z7) := rfl
    simp only [ht, e1]
    exact e2
theorem law_true {ns : List Int} (h : ns.length ≤ 63) : ∃ S', g_law [.scr ns] [] = .ok (.bl true) S' := by
  obtain ⟨hF0, hf⟩ := feed_ok h
  let S0 := S00 ns
  have s1 : Fx.set 1 (cal (cns (getv 0) (fun _ => pur [])) g_law_feed) (ent 8 [.scr ns]) [] = .ok (.nx (envL ns none none none none none none)) S0 := set_ok (i := 1) ((cal1_ok (g := g_law_feed) (getv_ok (i := 0) rfl)).trans hf)
  have s2 : (asg (fun _ => g_law_document []) (toTup (toCons (toN 2) (toCons (toN 3) toNil)))) (envL ns none none none none none none) S0 = .ok (.nx (envL ns (some docH) (some docC) none none none none)) S0 := by
    have := doc_run S0
    simp only [asg, lft, this]; rfl
  let e2 : Fx.Env := envL ns (some docH) (some docC) none none none none
  have s4 : Fx.set 4 (dsp mkT (cns (fun _ => pur (.str "told")) (cns (dsp mkT (cns (bin ixD (getv 2) (fun _ => pur (.int 0))) (cns (fun _ => pur (.int 3)) (cns (dsp mkT (cns (dsp mkT (cns (fun _ => pur (.int 0)) (cns (fun _ => pur (.str "box")) (cns (dsp mkT (cns (fun _ => pur .non) (cns (fun _ => pur (.int 4)) (fun _ => pur [])))) (fun _ => pur []))))) (cns (dsp mkT (cns (fun _ => pur (.int 2)) (cns (fun _ => pur (.str "box")) (cns (dsp mkT (cns (fun _ => pur .non) (cns (fun _ => pur (.int 9)) (fun _ => pur [])))) (fun _ => pur []))))) (fun _ => pur [])))) (fun _ => pur []))))) (fun _ => pur [])))) e2 S0 = .ok (.nx (envL ns (some docH) (some docC) (some docD) none none none)) S0 := set_ok rfl
  let e3 : Fx.Env := envL ns (some docH) (some docC) (some docD) none none none
  let S1 : Store := S0 ++ [some (.dct (docO.map ckv)), some (.dct (docS.map fkv))]
  have dh : hM (g_dropped [docH, .int 1]) S0 = .ok docD S1 := by
    unfold hM heardM
    rw [show g_dropped [docH, .int 1] S0 = _ from doc_drop ns]
    rfl
  have c0 : (fun env => heardM "told" tabs_LateError qf_law_outcome ((cal (cns (getv 2) (cns (fun _ => pur (.int 1)) (fun _ => pur []))) g_dropped) env)) e3 S0 = .ok docD S1 := heard_eq (cal2_ok (g := g_dropped) (f2 := fun _ => pur (.int 1)) (b := .int 1) (getv_ok (i := 2) rfl) rfl) dh
  obtain ⟨dg, dd, de⟩ := docD_gd
  have c1 : (tst (bin neD (fun env => heardM "told" tabs_LateError qf_law_outcome ((cal (cns (getv 2) (cns (fun _ => pur (.int 1)) (fun _ => pur []))) g_dropped) env)) (getv 4))) e3 S0 = .ok false S1 := tst_ok ((bin_okS (g := neD) (f1 := (fun env => heardM "told" tabs_LateError qf_law_outcome ((cal (cns (getv 2) (cns (fun _ => pur (.int 1)) (fun _ => pur []))) g_dropped) env))) c0 (getv_ok (i := 4) rfl)).trans ((neD_eq dg dg dd dd).trans (by rw [de]; rfl)))
  obtain ⟨R1, hF1, _⟩ := Fd.after hF0 (⟨_, rfl⟩ : After S0 S1)
  obtain ⟨n, hn, el⟩ := laps_ok ns S1
  have it : (itr1 (cns (cal (cns (getv 0) (cns (fun _ => pur (.int 5)) (fun _ => pur []))) g_law_laps) (fun _ => pur []))) e3 S1 = .ok (rng 0 (n : Nat)) S1 := itr1_len (n := n) ((cal2_ok (g := g_law_laps) (f1 := getv 0) (f2 := fun _ => pur (.int 5)) (b := .int 5) (getv_ok rfl) rfl).trans el) (Nat.le_trans hn (by decide))
  obtain ⟨env', S2, e5⟩ := lap_loop (ns := ns) (z3 := some docC) (z4 := some docD) (rng 0 (n : Nat)) (some docH) none none none S1 R1 hF1
  exact ⟨S2, body_rt (b := b_law) rfl ((seq_nx s1).trans ((seq_nx s2).trans ((seq_nx s4).trans ((seq_nx ((ifS_f c1).trans rfl)).trans ((seq_nx ((for_ok it).trans e5)).trans rfl)))))⟩
end K18

end
namespace K18
open PySem PySem.Spec PyProof.Rows L2 Fx
def i_InvalidStep : Stmt := match top 7 with
  | .ClassDef _ _ _ (st :: _) _ _ _ _ _ _ _ => st
  | st => st
def i_UnknownObject : Stmt := match top 6 with
  | .ClassDef _ _ _ (st :: _) _ _ _ _ _ _ _ => st
  | st => st
section
variable [tb : Fx.Tabl]
theorem law_of {P : Program} {w : World} {K : PySem.W.Frag} {mg : Str → Option Value} {base : Heap} {k : Nat} {x : Str} {st : Stmt} {ps : List Str} {g : List D → M D} {fa : Addr} {fd : FuncData} {oc : Value} {od : Option Addr} {sl : Array (Option Value)}
    (G : GAt true P w K mg base k x st ps g) (hfa : mg x = some (.ref fa)) (l : K.lookup fa = some ⟨oc, od, .func fd, sl⟩) : FnG true P w K mg base k fa fd ps g := by
  obtain ⟨a, fd', h1, h2, h3, h4⟩ := G.ex
  rw [h1] at hfa
  cases hfa
  obtain ⟨_, _, kV, doc, pm, an, cd, ct, osl, rfl, lk, hcd⟩ := h2.ex
  rw [l] at lk
  cases lk
  exact h4
end
def tabFree (K : PySem.W.Frag) (x : Str) : Bool := match PySem.W.tabIn K x with
  | some (_, t) => (K.lookup t).isNone
  | none => false
theorem tabFree_ok {K : PySem.W.Frag} {x : Str} (h : tabFree K x = true) : ∃ c t, PySem.W.tabIn K x = some (c, t) ∧ K.lookup t = none := by
  unfold tabFree at h
  split at h
  · rename_i c t e
    exact ⟨c, t, e, Option.isNone_iff_eq_none.mp h⟩
  · cases h
def tabDif (K : PySem.W.Frag) (x y : Str) : Bool := match PySem.W.tabIn K x, PySem.W.tabIn K y with
  | some (_, t), some (_, u) => decide (t ≠ u)
  | _, _ => false
theorem tabDif_ok {K : PySem.W.Frag} {x y : Str} {c d t u : Addr} (h : tabDif K x y = true) (p : PySem.W.tabIn K x = some (c, t)) (q : PySem.W.tabIn K y = some (d, u)) : t ≠ u := by
  unfold tabDif at h
  rw [p, q] at h
  exact of_decide_eq_true h
theorem tab_code {K : PySem.W.Frag} {x : Str} {c t : Addr} {h : Heap} {mg : Str → Option Value} (X : K.In h) (G : h.Ns mainGlobals mg) (ht : PySem.W.tabIn K x = some (c, t)) : CodeAt K mg x (.ref c) := by
  unfold PySem.W.tabIn at ht
  split at ht
  · rename_i f e1
    split at ht
    · rename_i oc od fd sl e2
      split at ht
      · rename_i c' e3
        split at ht
        · split at ht
          · cases ht
            exact ⟨f, _, fd, PySem.W.mg_of X G e1, e2, rfl, e3⟩
          · cases ht
        · cases ht
      · cases ht
    · cases ht
  · cases ht
theorem all_mk {P : Program} {w : World} {K : PySem.W.Frag} {h : Heap} {mg : Str → Option Value} {fa : Addr} {NM : List Str} (HT : ∀ x c t, PySem.W.tabIn K x = some (c, t) → x ∈ NM → PySem.W.CodeHd h c t ∧ h.get? t = some { cls := .none, data := .fields #[] }) (X : K.In h) (G : h.Ns mainGlobals mg) (hfa : mg "law" = some (.ref fa))
    {f0 : Addr} {oc0 kV0 dc0 pm0 cd0 ct0 : Value} {od0 an0 : Option Addr} {sl0 : Array (Option Value)}
    {f1 : Addr} {oc1 kV1 dc1 pm1 cd1 ct1 : Value} {od1 an1 : Option Addr} {sl1 : Array (Option Value)}
    {f2 : Addr} {oc2 kV2 dc2 pm2 cd2 ct2 : Value} {od2 an2 : Option Addr} {sl2 : Array (Option Value)}
    {f3 : Addr} {oc3 kV3 dc3 pm3 cd3 ct3 : Value} {od3 an3 : Option Addr} {sl3 : Array (Option Value)}
    {f4 : Addr} {oc4 kV4 dc4 pm4 cd4 ct4 : Value} {od4 an4 : Option Addr} {sl4 : Array (Option Value)}
    {f5 : Addr} {oc5 kV5 dc5 pm5 cd5 ct5 : Value} {od5 an5 : Option Addr} {sl5 : Array (Option Value)}
    {f6 : Addr} {oc6 kV6 dc6 pm6 cd6 ct6 : Value} {od6 an6 : Option Addr} {sl6 : Array (Option Value)}
    {f7 : Addr} {oc7 kV7 dc7 pm7 cd7 ct7 : Value} {od7 an7 : Option Addr} {sl7 : Array (Option Value)}
    {f8 : Addr} {oc8 kV8 dc8 pm8 cd8 ct8 : Value} {od8 an8 : Option Addr} {sl8 : Array (Option Value)}
    {f9 : Addr} {oc9 kV9 dc9 pm9 cd9 ct9 : Value} {od9 an9 : Option Addr} {sl9 : Array (Option Value)}
    {f10 : Addr} {oc10 kV10 dc10 pm10 cd10 ct10 : Value} {od10 an10 : Option Addr} {sl10 : Array (Option Value)}
    {f11 : Addr} {oc11 kV11 dc11 pm11 cd11 ct11 : Value} {od11 an11 : Option Addr} {sl11 : Array (Option Value)}
    {f12 : Addr} {oc12 kV12 dc12 pm12 cd12 ct12 : Value} {od12 an12 : Option Addr} {sl12 : Array (Option Value)}
    {f13 : Addr} {oc13 kV13 dc13 pm13 cd13 ct13 : Value} {od13 an13 : Option Addr} {sl13 : Array (Option Value)}
    {f14 : Addr} {oc14 kV14 dc14 pm14 cd14 ct14 : Value} {od14 an14 : Option Addr} {sl14 : Array (Option Value)}
    {f15 : Addr} {oc15 kV15 dc15 pm15 cd15 ct15 : Value} {od15 an15 : Option Addr} {sl15 : Array (Option Value)}
    {f16 : Addr} {oc16 kV16 dc16 pm16 cd16 ct16 : Value} {od16 an16 : Option Addr} {sl16 : Array (Option Value)}
    {f17 : Addr} {oc17 kV17 dc17 pm17 cd17 ct17 : Value} {od17 an17 : Option Addr} {sl17 : Array (Option Value)}
    {f18 : Addr} {oc18 kV18 dc18 pm18 cd18 ct18 : Value} {od18 an18 : Option Addr} {sl18 : Array (Option Value)}
    {f19 : Addr} {oc19 kV19 dc19 pm19 cd19 ct19 : Value} {od19 an19 : Option Addr} {sl19 : Array (Option Value)}
    {f20 : Addr} {oc20 kV20 dc20 pm20 cd20 ct20 : Value} {od20 an20 : Option Addr} {sl20 : Array (Option Value)}
    {f21 : Addr} {oc21 kV21 dc21 pm21 cd21 ct21 : Value} {od21 an21 : Option Addr} {sl21 : Array (Option Value)}
    {f22 : Addr} {oc22 kV22 dc22 pm22 cd22 ct22 : Value} {od22 an22 : Option Addr} {sl22 : Array (Option Value)}
    {f23 : Addr} {oc23 kV23 dc23 pm23 cd23 ct23 : Value} {od23 an23 : Option Addr} {sl23 : Array (Option Value)}
    {f24 : Addr} {oc24 kV24 dc24 pm24 cd24 ct24 : Value} {od24 an24 : Option Addr} {sl24 : Array (Option Value)}
    {f25 : Addr} {oc25 kV25 dc25 pm25 cd25 ct25 : Value} {od25 an25 : Option Addr} {sl25 : Array (Option Value)}
    {f26 : Addr} {oc26 kV26 dc26 pm26 cd26 ct26 : Value} {od26 an26 : Option Addr} {sl26 : Array (Option Value)}
    {f27 : Addr} {oc27 kV27 dc27 pm27 cd27 ct27 : Value} {od27 an27 : Option Addr} {sl27 : Array (Option Value)}
    {f28 : Addr} {oc28 kV28 dc28 pm28 cd28 ct28 : Value} {od28 an28 : Option Addr} {sl28 : Array (Option Value)}
    {f29 : Addr} {oc29 kV29 dc29 pm29 cd29 ct29 : Value} {od29 an29 : Option Addr} {sl29 : Array (Option Value)}
    {f30 : Addr} {oc30 kV30 dc30 pm30 cd30 ct30 : Value} {od30 an30 : Option Addr} {sl30 : Array (Option Value)}
    {f31 : Addr} {oc31 kV31 dc31 pm31 cd31 ct31 : Value} {od31 an31 : Option Addr} {sl31 : Array (Option Value)}
    {f32 : Addr} {oc32 kV32 dc32 pm32 cd32 ct32 : Value} {od32 an32 : Option Addr} {sl32 : Array (Option Value)}
    {f33 : Addr} {oc33 kV33 dc33 pm33 cd33 ct33 : Value} {od33 an33 : Option Addr} {sl33 : Array (Option Value)}
    {f34 : Addr} {oc34 kV34 dc34 pm34 cd34 ct34 : Value} {od34 an34 : Option Addr} {sl34 : Array (Option Value)}
    {f35 : Addr} {oc35 kV35 dc35 pm35 cd35 ct35 : Value} {od35 an35 : Option Addr} {sl35 : Array (Option Value)}
    {f36 : Addr} {oc36 kV36 dc36 pm36 cd36 ct36 : Value} {od36 an36 : Option Addr} {sl36 : Array (Option Value)}
    {f37 : Addr} {oc37 kV37 dc37 pm37 cd37 ct37 : Value} {od37 an37 : Option Addr} {sl37 : Array (Option Value)}
    {f38 : Addr} {oc38 kV38 dc38 pm38 cd38 ct38 : Value} {od38 an38 : Option Addr} {sl38 : Array (Option Value)}
    {f39 : Addr} {oc39 kV39 dc39 pm39 cd39 ct39 : Value} {od39 an39 : Option Addr} {sl39 : Array (Option Value)}
    {f40 : Addr} {oc40 kV40 dc40 pm40 cd40 ct40 : Value} {od40 an40 : Option Addr} {sl40 : Array (Option Value)}
    {f41 : Addr} {oc41 kV41 dc41 pm41 cd41 ct41 : Value} {od41 an41 : Option Addr} {sl41 : Array (Option Value)}
    {CInvalidStep : Addr}
    {CUnknownObject : Addr}
    {CLateError : Addr}
    {CInvalidPaper : Addr}
    {CInvalidText : Addr}
    {CPaperError : Addr}
    {CStoreError : Addr}
    {CTextError : Addr}
    {CUnfitExpression : Addr}
    {CGoneCell : Addr}
    {CNothingToUndo : Addr}
    {CInvalidPace : Addr}
    {CInvalidCommand : Addr}
    {nmInvalidStep qnInvalidStep : Str} {NInvalidStep : Addr} {bsInvalidStep subInvalidStep : List Value} {snInvalidStep : List Str} {abInvalidStep : Bool} {colInvalidStep : Option Bool} {ddInvalidStep : Option Addr} {k0InvalidStep k1InvalidStep k2InvalidStep k3InvalidStep k5InvalidStep : Option Value} {f1InvalidStep : Addr} {ocInvalidStep kVInvalidStep dcInvalidStep pmInvalidStep cdInvalidStep ctInvalidStep : Value} {odInvalidStep anInvalidStep : Option Addr} {slInvalidStep : Array (Option Value)}
    {nmUnknownObject qnUnknownObject : Str} {NUnknownObject : Addr} {bsUnknownObject subUnknownObject : List Value} {snUnknownObject : List Str} {abUnknownObject : Bool} {colUnknownObject : Option Bool} {ddUnknownObject : Option Addr} {k0UnknownObject k1UnknownObject k2UnknownObject k3UnknownObject k5UnknownObject : Option Value} {f1UnknownObject : Addr} {ocUnknownObject kVUnknownObject dcUnknownObject pmUnknownObject cdUnknownObject ctUnknownObject : Value} {odUnknownObject anUnknownObject : Option Addr} {slUnknownObject : Array (Option Value)}
    (a0 : PySem.W.nsIn K mainGlobals "_law_feed" = some (some (.ref f0)))
    (l0 : K.lookup f0 = some ⟨oc0, od0, .func (PySem.W.fnOf "_law_feed" "_law_feed" (defArgs s_law_feed) (defBody s_law_feed) (defScope s_law_feed) .none kV0 dc0 pm0 an0 cd0 ct0), sl0⟩)
    (c0 : PySem.W.codeIn K cd0 "_law_feed" = true)
    (k0 : PySem.W.keepIn K (.ref f0) = true)
    (a1 : PySem.W.nsIn K mainGlobals "_law_document" = some (some (.ref f1)))
    (l1 : K.lookup f1 = some ⟨oc1, od1, .func (PySem.W.fnOf "_law_document" "_law_document" (defArgs s_law_document) (defBody s_law_document) (defScope s_law_document) .none kV1 dc1 pm1 an1 cd1 ct1), sl1⟩)
    (c1 : PySem.W.codeIn K cd1 "_law_document" = true)
    (k1 : PySem.W.keepIn K (.ref f1) = true)
    (a2 : PySem.W.nsIn K mainGlobals "_law_outcome" = some (some (.ref f2)))
    (l2 : K.lookup f2 = some ⟨oc2, od2, .func (PySem.W.fnOf "_law_outcome" "_law_outcome" (defArgs s_law_outcome) (defBody s_law_outcome) (defScope s_law_outcome) .none kV2 dc2 pm2 an2 cd2 ct2), sl2⟩)
    (c2 : PySem.W.codeIn K cd2 "_law_outcome" = true)
    (k2 : PySem.W.keepIn K (.ref f2) = true)
    (a3 : PySem.W.nsIn K mainGlobals "_law_laps" = some (some (.ref f3)))
    (l3 : K.lookup f3 = some ⟨oc3, od3, .func (PySem.W.fnOf "_law_laps" "_law_laps" (defArgs s_law_laps) (defBody s_law_laps) (defScope s_law_laps) .none kV3 dc3 pm3 an3 cd3 ct3), sl3⟩)
    (c3 : PySem.W.codeIn K cd3 "_law_laps" = true)
    (k3 : PySem.W.keepIn K (.ref f3) = true)
    (a4 : PySem.W.nsIn K mainGlobals "_law_draw" = some (some (.ref f4)))
    (l4 : K.lookup f4 = some ⟨oc4, od4, .func (PySem.W.fnOf "_law_draw" "_law_draw" (defArgs s_law_draw) (defBody s_law_draw) (defScope s_law_draw) .none kV4 dc4 pm4 an4 cd4 ct4), sl4⟩)
    (c4 : PySem.W.codeIn K cd4 "_law_draw" = true)
    (k4 : PySem.W.keepIn K (.ref f4) = true)
    (a5 : PySem.W.nsIn K mainGlobals "_law_any" = some (some (.ref f5)))
    (l5 : K.lookup f5 = some ⟨oc5, od5, .func (PySem.W.fnOf "_law_any" "_law_any" (defArgs s_law_any) (defBody s_law_any) (defScope s_law_any) .none kV5 dc5 pm5 an5 cd5 ct5), sl5⟩)
    (c5 : PySem.W.codeIn K cd5 "_law_any" = true)
    (k5 : PySem.W.keepIn K (.ref f5) = true)
    (a6 : PySem.W.nsIn K mainGlobals "_law_fitting" = some (some (.ref f6)))
    (l6 : K.lookup f6 = some ⟨oc6, od6, .func (PySem.W.fnOf "_law_fitting" "_law_fitting" (defArgs s_law_fitting) (defBody s_law_fitting) (defScope s_law_fitting) .none kV6 dc6 pm6 an6 cd6 ct6), sl6⟩)
    (c6 : PySem.W.codeIn K cd6 "_law_fitting" = true)
    (k6 : PySem.W.keepIn K (.ref f6) = true)
    (a7 : PySem.W.nsIn K mainGlobals "_law_values" = some (some (.ref f7)))
    (l7 : K.lookup f7 = some ⟨oc7, od7, .func (PySem.W.fnOf "_law_values" "_law_values" (defArgs s_law_values) (defBody s_law_values) (defScope s_law_values) .none kV7 dc7 pm7 an7 cd7 ct7), sl7⟩)
    (c7 : PySem.W.codeIn K cd7 "_law_values" = true)
    (k7 : PySem.W.keepIn K (.ref f7) = true)
    (a8 : PySem.W.nsIn K mainGlobals "_law_house" = some (some (.ref f8)))
    (l8 : K.lookup f8 = some ⟨oc8, od8, .func (PySem.W.fnOf "_law_house" "_law_house" (defArgs s_law_house) (defBody s_law_house) (defScope s_law_house) .none kV8 dc8 pm8 an8 cd8 ct8), sl8⟩)
    (c8 : PySem.W.codeIn K cd8 "_law_house" = true)
    (k8 : PySem.W.keepIn K (.ref f8) = true)
    (a9 : PySem.W.nsIn K mainGlobals "_law_lot" = some (some (.ref f9)))
    (l9 : K.lookup f9 = some ⟨oc9, od9, .func (PySem.W.fnOf "_law_lot" "_law_lot" (defArgs s_law_lot) (defBody s_law_lot) (defScope s_law_lot) .none kV9 dc9 pm9 an9 cd9 ct9), sl9⟩)
    (c9 : PySem.W.codeIn K cd9 "_law_lot" = true)
    (k9 : PySem.W.keepIn K (.ref f9) = true)
    (a10 : PySem.W.nsIn K mainGlobals "_law_classes" = some (some (.ref f10)))
    (l10 : K.lookup f10 = some ⟨oc10, od10, .func (PySem.W.fnOf "_law_classes" "_law_classes" (defArgs s_law_classes) (defBody s_law_classes) (defScope s_law_classes) .none kV10 dc10 pm10 an10 cd10 ct10), sl10⟩)
    (c10 : PySem.W.codeIn K cd10 "_law_classes" = true)
    (k10 : PySem.W.keepIn K (.ref f10) = true)
    (a11 : PySem.W.nsIn K mainGlobals "is_integer" = some (some (.ref f11)))
    (l11 : K.lookup f11 = some ⟨oc11, od11, .func (PySem.W.fnOf "is_integer" "is_integer" (defArgs s_is_integer) (defBody s_is_integer) (defScope s_is_integer) .none kV11 dc11 pm11 an11 cd11 ct11), sl11⟩)
    (c11 : PySem.W.codeIn K cd11 "is_integer" = true)
    (k11 : PySem.W.keepIn K (.ref f11) = true)
    (a12 : PySem.W.nsIn K mainGlobals "classes_of" = some (some (.ref f12)))
    (l12 : K.lookup f12 = some ⟨oc12, od12, .func (PySem.W.fnOf "classes_of" "classes_of" (defArgs s_classes_of) (defBody s_classes_of) (defScope s_classes_of) .none kV12 dc12 pm12 an12 cd12 ct12), sl12⟩)
    (c12 : PySem.W.codeIn K cd12 "classes_of" = true)
    (k12 : PySem.W.keepIn K (.ref f12) = true)
    (a13 : PySem.W.nsIn K mainGlobals "check_number" = some (some (.ref f13)))
    (l13 : K.lookup f13 = some ⟨oc13, od13, .func (PySem.W.fnOf "check_number" "check_number" (defArgs s_check_number) (defBody s_check_number) (defScope s_check_number) .none kV13 dc13 pm13 an13 cd13 ct13), sl13⟩)
    (c13 : PySem.W.codeIn K cd13 "check_number" = true)
    (k13 : PySem.W.keepIn K (.ref f13) = true)
    (a14 : PySem.W.nsIn K mainGlobals "is_link" = some (some (.ref f14)))
    (l14 : K.lookup f14 = some ⟨oc14, od14, .func (PySem.W.fnOf "is_link" "is_link" (defArgs s_is_link) (defBody s_is_link) (defScope s_is_link) .none kV14 dc14 pm14 an14 cd14 ct14), sl14⟩)
    (c14 : PySem.W.codeIn K cd14 "is_link" = true)
    (k14 : PySem.W.keepIn K (.ref f14) = true)
    (a15 : PySem.W.nsIn K mainGlobals "unlinked" = some (some (.ref f15)))
    (l15 : K.lookup f15 = some ⟨oc15, od15, .func (PySem.W.fnOf "unlinked" "unlinked" (defArgs s_unlinked) (defBody s_unlinked) (defScope s_unlinked) .none kV15 dc15 pm15 an15 cd15 ct15), sl15⟩)
    (c15 : PySem.W.codeIn K cd15 "unlinked" = true)
    (k15 : PySem.W.keepIn K (.ref f15) = true)
    (a16 : PySem.W.nsIn K mainGlobals "dropped" = some (some (.ref f16)))
    (l16 : K.lookup f16 = some ⟨oc16, od16, .func (PySem.W.fnOf "dropped" "dropped" (defArgs s_dropped) (defBody s_dropped) (defScope s_dropped) .none kV16 dc16 pm16 an16 cd16 ct16), sl16⟩)
    (c16 : PySem.W.codeIn K cd16 "dropped" = true)
    (k16 : PySem.W.keepIn K (.ref f16) = true)
    (a17 : PySem.W.nsIn K mainGlobals "_law_some_item" = some (some (.ref f17)))
    (l17 : K.lookup f17 = some ⟨oc17, od17, .func (PySem.W.fnOf "_law_some_item" "_law_some_item" (defArgs s_law_some_item) (defBody s_law_some_item) (defScope s_law_some_item) .none kV17 dc17 pm17 an17 cd17 ct17), sl17⟩)
    (c17 : PySem.W.codeIn K cd17 "_law_some_item" = true)
    (k17 : PySem.W.keepIn K (.ref f17) = true)
    (a18 : PySem.W.nsIn K mainGlobals "_law_some_lots" = some (some (.ref f18)))
    (l18 : K.lookup f18 = some ⟨oc18, od18, .func (PySem.W.fnOf "_law_some_lots" "_law_some_lots" (defArgs s_law_some_lots) (defBody s_law_some_lots) (defScope s_law_some_lots) .none kV18 dc18 pm18 an18 cd18 ct18), sl18⟩)
    (c18 : PySem.W.codeIn K cd18 "_law_some_lots" = true)
    (k18 : PySem.W.keepIn K (.ref f18) = true)
    (a19 : PySem.W.nsIn K mainGlobals "_law_is_integer" = some (some (.ref f19)))
    (l19 : K.lookup f19 = some ⟨oc19, od19, .func (PySem.W.fnOf "_law_is_integer" "_law_is_integer" (defArgs s_law_is_integer) (defBody s_law_is_integer) (defScope s_law_is_integer) .none kV19 dc19 pm19 an19 cd19 ct19), sl19⟩)
    (c19 : PySem.W.codeIn K cd19 "_law_is_integer" = true)
    (k19 : PySem.W.keepIn K (.ref f19) = true)
    (a20 : PySem.W.nsIn K mainGlobals "_law_suits" = some (some (.ref f20)))
    (l20 : K.lookup f20 = some ⟨oc20, od20, .func (PySem.W.fnOf "_law_suits" "_law_suits" (defArgs s_law_suits) (defBody s_law_suits) (defScope s_law_suits) .none kV20 dc20 pm20 an20 cd20 ct20), sl20⟩)
    (c20 : PySem.W.codeIn K cd20 "_law_suits" = true)
    (k20 : PySem.W.keepIn K (.ref f20) = true)
    (a21 : PySem.W.nsIn K mainGlobals "_law_made_due" = some (some (.ref f21)))
    (l21 : K.lookup f21 = some ⟨oc21, od21, .func (PySem.W.fnOf "_law_made_due" "_law_made_due" (defArgs s_law_made_due) (defBody s_law_made_due) (defScope s_law_made_due) .none kV21 dc21 pm21 an21 cd21 ct21), sl21⟩)
    (c21 : PySem.W.codeIn K cd21 "_law_made_due" = true)
    (k21 : PySem.W.keepIn K (.ref f21) = true)
    (a22 : PySem.W.nsIn K mainGlobals "form_of" = some (some (.ref f22)))
    (l22 : K.lookup f22 = some ⟨oc22, od22, .func (PySem.W.fnOf "form_of" "form_of" (defArgs s_form_of) (defBody s_form_of) (defScope s_form_of) .none kV22 dc22 pm22 an22 cd22 ct22), sl22⟩)
    (c22 : PySem.W.codeIn K cd22 "form_of" = true)
    (k22 : PySem.W.keepIn K (.ref f22) = true)
    (a23 : PySem.W.nsIn K mainGlobals "in_range" = some (some (.ref f23)))
    (l23 : K.lookup f23 = some ⟨oc23, od23, .func (PySem.W.fnOf "in_range" "in_range" (defArgs s_in_range) (defBody s_in_range) (defScope s_in_range) .none kV23 dc23 pm23 an23 cd23 ct23), sl23⟩)
    (c23 : PySem.W.codeIn K cd23 "in_range" = true)
    (k23 : PySem.W.keepIn K (.ref f23) = true)
    (a24 : PySem.W.nsIn K mainGlobals "is_number" = some (some (.ref f24)))
    (l24 : K.lookup f24 = some ⟨oc24, od24, .func (PySem.W.fnOf "is_number" "is_number" (defArgs s_is_number) (defBody s_is_number) (defScope s_is_number) .none kV24 dc24 pm24 an24 cd24 ct24), sl24⟩)
    (c24 : PySem.W.codeIn K cd24 "is_number" = true)
    (k24 : PySem.W.keepIn K (.ref f24) = true)
    (a25 : PySem.W.nsIn K mainGlobals "suits" = some (some (.ref f25)))
    (l25 : K.lookup f25 = some ⟨oc25, od25, .func (PySem.W.fnOf "suits" "suits" (defArgs s_suits) (defBody s_suits) (defScope s_suits) .none kV25 dc25 pm25 an25 cd25 ct25), sl25⟩)
    (c25 : PySem.W.codeIn K cd25 "suits" = true)
    (k25 : PySem.W.keepIn K (.ref f25) = true)
    (a26 : PySem.W.nsIn K mainGlobals "all_suit" = some (some (.ref f26)))
    (l26 : K.lookup f26 = some ⟨oc26, od26, .func (PySem.W.fnOf "all_suit" "all_suit" (defArgs s_all_suit) (defBody s_all_suit) (defScope s_all_suit) .none kV26 dc26 pm26 an26 cd26 ct26), sl26⟩)
    (c26 : PySem.W.codeIn K cd26 "all_suit" = true)
    (k26 : PySem.W.keepIn K (.ref f26) = true)
    (a27 : PySem.W.nsIn K mainGlobals "made_by" = some (some (.ref f27)))
    (l27 : K.lookup f27 = some ⟨oc27, od27, .func (PySem.W.fnOf "made_by" "made_by" (defArgs s_made_by) (defBody s_made_by) (defScope s_made_by) .none kV27 dc27 pm27 an27 cd27 ct27), sl27⟩)
    (c27 : PySem.W.codeIn K cd27 "made_by" = true)
    (k27 : PySem.W.keepIn K (.ref f27) = true)
    (a28 : PySem.W.nsIn K mainGlobals "made" = some (some (.ref f28)))
    (l28 : K.lookup f28 = some ⟨oc28, od28, .func (PySem.W.fnOf "made" "made" (defArgs s_made) (defBody s_made) (defScope s_made) .none kV28 dc28 pm28 an28 cd28 ct28), sl28⟩)
    (c28 : PySem.W.codeIn K cd28 "made" = true)
    (k28 : PySem.W.keepIn K (.ref f28) = true)
    (a29 : PySem.W.nsIn K mainGlobals "_law_make" = some (some (.ref f29)))
    (l29 : K.lookup f29 = some ⟨oc29, od29, .func (PySem.W.fnOf "_law_make" "_law_make" (defArgs s_law_make) (defBody s_law_make) (defScope s_law_make) .none kV29 dc29 pm29 an29 cd29 ct29), sl29⟩)
    (c29 : PySem.W.codeIn K cd29 "_law_make" = true)
    (k29 : PySem.W.keepIn K (.ref f29) = true)
    (a30 : PySem.W.nsIn K mainGlobals "_law_making_right" = some (some (.ref f30)))
    (l30 : K.lookup f30 = some ⟨oc30, od30, .func (PySem.W.fnOf "_law_making_right" "_law_making_right" (defArgs s_law_making_right) (defBody s_law_making_right) (defScope s_law_making_right) .none kV30 dc30 pm30 an30 cd30 ct30), sl30⟩)
    (c30 : PySem.W.codeIn K cd30 "_law_making_right" = true)
    (k30 : PySem.W.keepIn K (.ref f30) = true)
    (t30 : tabFree K "_law_making_right" = true)
    (m30 : ("_law_making_right" : Str) ∈ NM)
    (a31 : PySem.W.nsIn K mainGlobals "_law_some_number" = some (some (.ref f31)))
    (l31 : K.lookup f31 = some ⟨oc31, od31, .func (PySem.W.fnOf "_law_some_number" "_law_some_number" (defArgs s_law_some_number) (defBody s_law_some_number) (defScope s_law_some_number) .none kV31 dc31 pm31 an31 cd31 ct31), sl31⟩)
    (c31 : PySem.W.codeIn K cd31 "_law_some_number" = true)
    (k31 : PySem.W.keepIn K (.ref f31) = true)
    (a32 : PySem.W.nsIn K mainGlobals "_law_is_member" = some (some (.ref f32)))
    (l32 : K.lookup f32 = some ⟨oc32, od32, .func (PySem.W.fnOf "_law_is_member" "_law_is_member" (defArgs s_law_is_member) (defBody s_law_is_member) (defScope s_law_is_member) .none kV32 dc32 pm32 an32 cd32 ct32), sl32⟩)
    (c32 : PySem.W.codeIn K cd32 "_law_is_member" = true)
    (k32 : PySem.W.keepIn K (.ref f32) = true)
    (a33 : PySem.W.nsIn K mainGlobals "_law_some_label" = some (some (.ref f33)))
    (l33 : K.lookup f33 = some ⟨oc33, od33, .func (PySem.W.fnOf "_law_some_label" "_law_some_label" (defArgs s_law_some_label) (defBody s_law_some_label) (defScope s_law_some_label) .none kV33 dc33 pm33 an33 cd33 ct33), sl33⟩)
    (c33 : PySem.W.codeIn K cd33 "_law_some_label" = true)
    (k33 : PySem.W.keepIn K (.ref f33) = true)
    (a34 : PySem.W.nsIn K mainGlobals "_law_written_due" = some (some (.ref f34)))
    (l34 : K.lookup f34 = some ⟨oc34, od34, .func (PySem.W.fnOf "_law_written_due" "_law_written_due" (defArgs s_law_written_due) (defBody s_law_written_due) (defScope s_law_written_due) .none kV34 dc34 pm34 an34 cd34 ct34), sl34⟩)
    (c34 : PySem.W.codeIn K cd34 "_law_written_due" = true)
    (k34 : PySem.W.keepIn K (.ref f34) = true)
    (a35 : PySem.W.nsIn K mainGlobals "_law_dropped_due" = some (some (.ref f35)))
    (l35 : K.lookup f35 = some ⟨oc35, od35, .func (PySem.W.fnOf "_law_dropped_due" "_law_dropped_due" (defArgs s_law_dropped_due) (defBody s_law_dropped_due) (defScope s_law_dropped_due) .none kV35 dc35 pm35 an35 cd35 ct35), sl35⟩)
    (c35 : PySem.W.codeIn K cd35 "_law_dropped_due" = true)
    (k35 : PySem.W.keepIn K (.ref f35) = true)
    (a36 : PySem.W.nsIn K mainGlobals "place_of" = some (some (.ref f36)))
    (l36 : K.lookup f36 = some ⟨oc36, od36, .func (PySem.W.fnOf "place_of" "place_of" (defArgs s_place_of) (defBody s_place_of) (defScope s_place_of) .none kV36 dc36 pm36 an36 cd36 ct36), sl36⟩)
    (c36 : PySem.W.codeIn K cd36 "place_of" = true)
    (k36 : PySem.W.keepIn K (.ref f36) = true)
    (a37 : PySem.W.nsIn K mainGlobals "with_value" = some (some (.ref f37)))
    (l37 : K.lookup f37 = some ⟨oc37, od37, .func (PySem.W.fnOf "with_value" "with_value" (defArgs s_with_value) (defBody s_with_value) (defScope s_with_value) .none kV37 dc37 pm37 an37 cd37 ct37), sl37⟩)
    (c37 : PySem.W.codeIn K cd37 "with_value" = true)
    (k37 : PySem.W.keepIn K (.ref f37) = true)
    (a38 : PySem.W.nsIn K mainGlobals "written_by" = some (some (.ref f38)))
    (l38 : K.lookup f38 = some ⟨oc38, od38, .func (PySem.W.fnOf "written_by" "written_by" (defArgs s_written_by) (defBody s_written_by) (defScope s_written_by) .none kV38 dc38 pm38 an38 cd38 ct38), sl38⟩)
    (c38 : PySem.W.codeIn K cd38 "written_by" = true)
    (k38 : PySem.W.keepIn K (.ref f38) = true)
    (a39 : PySem.W.nsIn K mainGlobals "written" = some (some (.ref f39)))
    (l39 : K.lookup f39 = some ⟨oc39, od39, .func (PySem.W.fnOf "written" "written" (defArgs s_written) (defBody s_written) (defScope s_written) .none kV39 dc39 pm39 an39 cd39 ct39), sl39⟩)
    (c39 : PySem.W.codeIn K cd39 "written" = true)
    (k39 : PySem.W.keepIn K (.ref f39) = true)
    (a40 : PySem.W.nsIn K mainGlobals "_law_others_right" = some (some (.ref f40)))
    (l40 : K.lookup f40 = some ⟨oc40, od40, .func (PySem.W.fnOf "_law_others_right" "_law_others_right" (defArgs s_law_others_right) (defBody s_law_others_right) (defScope s_law_others_right) .none kV40 dc40 pm40 an40 cd40 ct40), sl40⟩)
    (c40 : PySem.W.codeIn K cd40 "_law_others_right" = true)
    (k40 : PySem.W.keepIn K (.ref f40) = true)
    (t40 : tabFree K "_law_others_right" = true)
    (m40 : ("_law_others_right" : Str) ∈ NM)
    (a41 : PySem.W.nsIn K mainGlobals "law" = some (some (.ref f41)))
    (l41 : K.lookup f41 = some ⟨oc41, od41, .func (PySem.W.fnOf "law" "law" (defArgs s_law) (defBody s_law) (defScope s_law) .none kV41 dc41 pm41 an41 cd41 ct41), sl41⟩)
    (c41 : PySem.W.codeIn K cd41 "law" = true)
    (k41 : PySem.W.keepIn K (.ref f41) = true)
    (t41 : tabFree K "law" = true)
    (m41 : ("law" : Str) ∈ NM)
    (td_30_40 : tabDif K "_law_making_right" "_law_others_right" = true)
    (td_30_41 : tabDif K "_law_making_right" "law" = true)
    (td_40_41 : tabDif K "_law_others_right" "law" = true)
    (zb_ValueError : PySem.W.nsIn K mainGlobals "ValueError" = some none)
    (zb_all : PySem.W.nsIn K mainGlobals "all" = some none)
    (zb_bool : PySem.W.nsIn K mainGlobals "bool" = some none)
    (zb_dict : PySem.W.nsIn K mainGlobals "dict" = some none)
    (zb_enumerate : PySem.W.nsIn K mainGlobals "enumerate" = some none)
    (zb_int : PySem.W.nsIn K mainGlobals "int" = some none)
    (zb_isinstance : PySem.W.nsIn K mainGlobals "isinstance" = some none)
    (zb_len : PySem.W.nsIn K mainGlobals "len" = some none)
    (zb_list : PySem.W.nsIn K mainGlobals "list" = some none)
    (zb_min : PySem.W.nsIn K mainGlobals "min" = some none)
    (zb_range : PySem.W.nsIn K mainGlobals "range" = some none)
    (zb_repr : PySem.W.nsIn K mainGlobals "repr" = some none)
    (zb_str : PySem.W.nsIn K mainGlobals "str" = some none)
    (zb_tuple : PySem.W.nsIn K mainGlobals "tuple" = some none)
    (zb_zip : PySem.W.nsIn K mainGlobals "zip" = some none)
    (g_InvalidStep : PySem.W.nsIn K mainGlobals "InvalidStep" = some (some (.ref CInvalidStep)))
    (g_UnknownObject : PySem.W.nsIn K mainGlobals "UnknownObject" = some (some (.ref CUnknownObject)))
    (g_LateError : PySem.W.nsIn K mainGlobals "LateError" = some (some (.ref CLateError)))
    (g_InvalidPaper : PySem.W.nsIn K mainGlobals "InvalidPaper" = some (some (.ref CInvalidPaper)))
    (g_InvalidText : PySem.W.nsIn K mainGlobals "InvalidText" = some (some (.ref CInvalidText)))
    (g_PaperError : PySem.W.nsIn K mainGlobals "PaperError" = some (some (.ref CPaperError)))
    (g_StoreError : PySem.W.nsIn K mainGlobals "StoreError" = some (some (.ref CStoreError)))
    (g_TextError : PySem.W.nsIn K mainGlobals "TextError" = some (some (.ref CTextError)))
    (g_UnfitExpression : PySem.W.nsIn K mainGlobals "UnfitExpression" = some (some (.ref CUnfitExpression)))
    (g_GoneCell : PySem.W.nsIn K mainGlobals "GoneCell" = some (some (.ref CGoneCell)))
    (g_NothingToUndo : PySem.W.nsIn K mainGlobals "NothingToUndo" = some (some (.ref CNothingToUndo)))
    (g_InvalidPace : PySem.W.nsIn K mainGlobals "InvalidPace" = some (some (.ref CInvalidPace)))
    (g_InvalidCommand : PySem.W.nsIn K mainGlobals "InvalidCommand" = some (some (.ref CInvalidCommand)))
    (xL_InvalidStep : K.lookup CInvalidStep = some (excClassObj nmInvalidStep qnInvalidStep CInvalidStep NInvalidStep bsInvalidStep [.ref CStoreError, .ref CLateError, .type "ValueError", .type "Exception", .type "BaseException", .type "object"] true snInvalidStep subInvalidStep abInvalidStep colInvalidStep ddInvalidStep k0InvalidStep k1InvalidStep k2InvalidStep k3InvalidStep k5InvalidStep "ValueError.__new__"))
    (sa_InvalidStep : PySem.W.findIn K (.ref CInvalidStep) "__setattr__" = some (some (.builtin "object.__setattr__")))
    (ga_InvalidStep : PySem.W.findIn K (.ref CInvalidStep) "__getattribute__" = some (some (.builtin "BaseException.__getattribute__")))
    (gg_InvalidStep : PySem.W.findIn K (.ref CInvalidStep) "__getattr__" = some none)
    (gc_InvalidStep : PySem.W.findIn K (.ref CInvalidStep) "__class__" = some (some (.builtin "object.__class__")))
    (eC_InvalidStep : PySem.W.subIn K (.ref CInvalidStep) (.type "BaseException") = some true)
    (tC_InvalidStep : PySem.W.typeIn K (.ref CInvalidStep) = some (.type "type"))
    (kC_InvalidStep : PySem.W.keepIn K (.ref CInvalidStep) = true)
    (hC_InvalidStep : PySem.W.hasDictIn K CInvalidStep = true)
    (mC_InvalidStep : PySem.W.mroIn K CInvalidStep (.type "object") = some true)
    (nf_InvalidStep_at : PySem.W.findIn K (.ref CInvalidStep) "at" = some none)
    (nf_InvalidStep_field : PySem.W.findIn K (.ref CInvalidStep) "field" = some none)
    (nf_InvalidStep_number : PySem.W.findIn K (.ref CInvalidStep) "number" = some none)
    (nf_InvalidStep_path : PySem.W.findIn K (.ref CInvalidStep) "path" = some none)
    (nf_InvalidStep_row : PySem.W.findIn K (.ref CInvalidStep) "row" = some none)
    (nf_InvalidStep_step : PySem.W.findIn K (.ref CInvalidStep) "step" = some none)
    (nf_InvalidStep_word : PySem.W.findIn K (.ref CInvalidStep) "word" = some none)
    (fi_InvalidStep : PySem.W.findIn K (.ref CInvalidStep) "__init__" = some (some (.ref f1InvalidStep)))
    (ft_InvalidStep : PySem.W.typeIn K (.ref f1InvalidStep) = some (.type "function"))
    (fl_InvalidStep : K.lookup f1InvalidStep = some ⟨ocInvalidStep, odInvalidStep, .func (PySem.W.fnOf "__init__" "InvalidStep.__init__" (defArgs i_InvalidStep) (defBody i_InvalidStep) (defScope i_InvalidStep) .none kVInvalidStep dcInvalidStep pmInvalidStep anInvalidStep cdInvalidStep ctInvalidStep), slInvalidStep⟩)
    (fc_InvalidStep : PySem.W.codeIn K cdInvalidStep "InvalidStep.__init__" = true)
    (fk_InvalidStep : PySem.W.keepIn K (.ref f1InvalidStep) = true)
    (xL_UnknownObject : K.lookup CUnknownObject = some (excClassObj nmUnknownObject qnUnknownObject CUnknownObject NUnknownObject bsUnknownObject [.ref CStoreError, .ref CLateError, .type "ValueError", .type "Exception", .type "BaseException", .type "object"] true snUnknownObject subUnknownObject abUnknownObject colUnknownObject ddUnknownObject k0UnknownObject k1UnknownObject k2UnknownObject k3UnknownObject k5UnknownObject "ValueError.__new__"))
    (sa_UnknownObject : PySem.W.findIn K (.ref CUnknownObject) "__setattr__" = some (some (.builtin "object.__setattr__")))
    (ga_UnknownObject : PySem.W.findIn K (.ref CUnknownObject) "__getattribute__" = some (some (.builtin "BaseException.__getattribute__")))
    (gg_UnknownObject : PySem.W.findIn K (.ref CUnknownObject) "__getattr__" = some none)
    (gc_UnknownObject : PySem.W.findIn K (.ref CUnknownObject) "__class__" = some (some (.builtin "object.__class__")))
    (eC_UnknownObject : PySem.W.subIn K (.ref CUnknownObject) (.type "BaseException") = some true)
    (tC_UnknownObject : PySem.W.typeIn K (.ref CUnknownObject) = some (.type "type"))
    (kC_UnknownObject : PySem.W.keepIn K (.ref CUnknownObject) = true)
    (hC_UnknownObject : PySem.W.hasDictIn K CUnknownObject = true)
    (mC_UnknownObject : PySem.W.mroIn K CUnknownObject (.type "object") = some true)
    (nf_UnknownObject_at : PySem.W.findIn K (.ref CUnknownObject) "at" = some none)
    (nf_UnknownObject_field : PySem.W.findIn K (.ref CUnknownObject) "field" = some none)
    (nf_UnknownObject_number : PySem.W.findIn K (.ref CUnknownObject) "number" = some none)
    (nf_UnknownObject_path : PySem.W.findIn K (.ref CUnknownObject) "path" = some none)
    (nf_UnknownObject_row : PySem.W.findIn K (.ref CUnknownObject) "row" = some none)
    (nf_UnknownObject_step : PySem.W.findIn K (.ref CUnknownObject) "step" = some none)
    (nf_UnknownObject_word : PySem.W.findIn K (.ref CUnknownObject) "word" = some none)
    (fi_UnknownObject : PySem.W.findIn K (.ref CUnknownObject) "__init__" = some (some (.ref f1UnknownObject)))
    (ft_UnknownObject : PySem.W.typeIn K (.ref f1UnknownObject) = some (.type "function"))
    (fl_UnknownObject : K.lookup f1UnknownObject = some ⟨ocUnknownObject, odUnknownObject, .func (PySem.W.fnOf "__init__" "UnknownObject.__init__" (defArgs i_UnknownObject) (defBody i_UnknownObject) (defScope i_UnknownObject) .none kVUnknownObject dcUnknownObject pmUnknownObject anUnknownObject cdUnknownObject ctUnknownObject), slUnknownObject⟩)
    (fc_UnknownObject : PySem.W.codeIn K cdUnknownObject "UnknownObject.__init__" = true)
    (fk_UnknownObject : PySem.W.keepIn K (.ref f1UnknownObject) = true)
    (zs : PySem.W.specialIn K (.builtin "object.__class__") "__get__" = some (some (.builtin "getset_descriptor.__get__")))
    (zt : PySem.W.takesIn K (.builtin "object.__class__") = some true)
    (es_InvalidStep_LateError : PySem.W.exmOne K (.ref CInvalidStep) (.ref CLateError) = some true)
    (es_UnknownObject_LateError : PySem.W.exmOne K (.ref CUnknownObject) (.ref CLateError) = some true)
    (ki_InvalidStep_InvalidPaper : PySem.W.kitOne K (.ref CInvalidStep) (.ref CInvalidPaper) = some false)
    (ki_UnknownObject_InvalidPaper : PySem.W.kitOne K (.ref CUnknownObject) (.ref CInvalidPaper) = some false)
    (ki_InvalidStep_InvalidStep : PySem.W.kitOne K (.ref CInvalidStep) (.ref CInvalidStep) = some true)
    (ki_UnknownObject_InvalidStep : PySem.W.kitOne K (.ref CUnknownObject) (.ref CInvalidStep) = some false)
    (ki_InvalidStep_InvalidText : PySem.W.kitOne K (.ref CInvalidStep) (.ref CInvalidText) = some false)
    (ki_UnknownObject_InvalidText : PySem.W.kitOne K (.ref CUnknownObject) (.ref CInvalidText) = some false)
    (ki_InvalidStep_PaperError : PySem.W.kitOne K (.ref CInvalidStep) (.ref CPaperError) = some false)
    (ki_UnknownObject_PaperError : PySem.W.kitOne K (.ref CUnknownObject) (.ref CPaperError) = some false)
    (ki_InvalidStep_StoreError : PySem.W.kitOne K (.ref CInvalidStep) (.ref CStoreError) = some true)
    (ki_UnknownObject_StoreError : PySem.W.kitOne K (.ref CUnknownObject) (.ref CStoreError) = some true)
    (ki_InvalidStep_TextError : PySem.W.kitOne K (.ref CInvalidStep) (.ref CTextError) = some false)
    (ki_UnknownObject_TextError : PySem.W.kitOne K (.ref CUnknownObject) (.ref CTextError) = some false)
    (ki_InvalidStep_UnfitExpression : PySem.W.kitOne K (.ref CInvalidStep) (.ref CUnfitExpression) = some false)
    (ki_UnknownObject_UnfitExpression : PySem.W.kitOne K (.ref CUnknownObject) (.ref CUnfitExpression) = some false)
    (ki_InvalidStep_UnknownObject : PySem.W.kitOne K (.ref CInvalidStep) (.ref CUnknownObject) = some false)
    (ki_UnknownObject_UnknownObject : PySem.W.kitOne K (.ref CUnknownObject) (.ref CUnknownObject) = some true)
    (kt_InvalidStep_0 : PySem.W.kitAny K (.ref CInvalidStep) [.ref CGoneCell, .ref CNothingToUndo, .ref CInvalidPace, .ref CInvalidCommand] = some false)
    (kt_UnknownObject_0 : PySem.W.kitAny K (.ref CUnknownObject) [.ref CGoneCell, .ref CNothingToUndo, .ref CInvalidPace, .ref CInvalidCommand] = some false)
    (kb_InvalidStep_ValueError : PySem.W.kitOne K (.ref CInvalidStep) (.type "ValueError") = some true)
    (kb_UnknownObject_ValueError : PySem.W.kitOne K (.ref CUnknownObject) (.type "ValueError") = some true) :
    ∃ (fd : FuncData) (cs : List (Addr × Addr)) (T : List (Addr × Str)), (∀ p ∈ cs, h.get? p.2 = some { cls := .none, data := .fields #[] }) ∧ (∀ p ∈ cs, K.lookup p.2 = none) ∧ (∀ p ∈ cs, PySem.W.CodeHd h p.1 p.2) ∧ (∀ p ∈ T, p.1 ∈ cs.map (·.2)) ∧ (∀ (s : Shared) (u : Value), BindsTo s fd ⟨[u], []⟩ [("_law_script", u)]) ∧
    ∀ base : Heap, K.In base → base.Ns mainGlobals mg → (∀ p ∈ cs, LamX.TabB base mg p.1 p.2) → @FnG ⟨T⟩ true P w K mg base 11 fa fd ["_law_script"] g_law := by
  have e := hfa.symm.trans (PySem.W.mg_of X G a41)
  cases e
  obtain ⟨cc30, tt30, q30, u30⟩ := tabFree_ok t30
  obtain ⟨cc40, tt40, q40, u40⟩ := tabFree_ok t40
  obtain ⟨cc41, tt41, q41, u41⟩ := tabFree_ok t41
  have tn_30_40 : tt30 ≠ tt40 := tabDif_ok td_30_40 q30 q40
  have tn_40_30 : tt40 ≠ tt30 := fun e => tn_30_40 e.symm
  have tn_30_41 : tt30 ≠ tt41 := tabDif_ok td_30_41 q30 q41
  have tn_41_30 : tt41 ≠ tt30 := fun e => tn_30_41 e.symm
  have tn_40_41 : tt40 ≠ tt41 := tabDif_ok td_40_41 q40 q41
  have tn_41_40 : tt41 ≠ tt40 := fun e => tn_40_41 e.symm
  refine ⟨PySem.W.fnOf "law" "law" (defArgs s_law) (defBody s_law) (defScope s_law) .none kV41 dc41 pm41 an41 cd41 ct41, [(cc30, tt30), (cc40, tt40), (cc41, tt41)], [(tt30, "_law_making_right.<locals>.<lambda>"), (tt40, "_law_others_right.<locals>.<lambda>"), (tt41, "law.<locals>.<lambda>")], List.forall_mem_cons.mpr ⟨(HT _ _ _ q30 m30).2, List.forall_mem_cons.mpr ⟨(HT _ _ _ q40 m40).2, List.forall_mem_cons.mpr ⟨(HT _ _ _ q41 m41).2, fun _ z => (nomatch z)⟩⟩⟩, List.forall_mem_cons.mpr ⟨u30, List.forall_mem_cons.mpr ⟨u40, List.forall_mem_cons.mpr ⟨u41, fun _ z => (nomatch z)⟩⟩⟩, List.forall_mem_cons.mpr ⟨(HT _ _ _ q30 m30).1, List.forall_mem_cons.mpr ⟨(HT _ _ _ q40 m40).1, List.forall_mem_cons.mpr ⟨(HT _ _ _ q41 m41).1, fun _ z => (nomatch z)⟩⟩⟩, List.forall_mem_cons.mpr ⟨List.mem_map.mpr ⟨(cc30, tt30), by simp, rfl⟩, List.forall_mem_cons.mpr ⟨List.mem_map.mpr ⟨(cc40, tt40), by simp, rfl⟩, List.forall_mem_cons.mpr ⟨List.mem_map.mpr ⟨(cc41, tt41), by simp, rfl⟩, fun _ z => (nomatch z)⟩⟩⟩, fun s v => .of_eq rfl, fun base _ _ hTB => ?_⟩
  letI tb : Fx.Tabl := ⟨[(tt30, "_law_making_right.<locals>.<lambda>"), (tt40, "_law_others_right.<locals>.<lambda>"), (tt41, "law.<locals>.<lambda>")]⟩
  have oex_InvalidStep : OexC K CInvalidStep := ⟨⟨_, _, _, _, _, _, _, _, _, _, _, _, _, _, _, xL_InvalidStep, by first | rfl | decide | simp [PySem.HandSPX.refsVE]⟩, sa_InvalidStep, eC_InvalidStep, tC_InvalidStep, kC_InvalidStep⟩
  have xfc_InvalidStep : XfC K CInvalidStep := ⟨ga_InvalidStep, gg_InvalidStep, eC_InvalidStep, hC_InvalidStep⟩
  have exc_InvalidStep : L2.ExcC K CInvalidStep := ⟨ga_InvalidStep, gg_InvalidStep, eC_InvalidStep, hC_InvalidStep, gc_InvalidStep, zs, zt, mC_InvalidStep⟩
  have oex_UnknownObject : OexC K CUnknownObject := ⟨⟨_, _, _, _, _, _, _, _, _, _, _, _, _, _, _, xL_UnknownObject, by first | rfl | decide | simp [PySem.HandSPX.refsVE]⟩, sa_UnknownObject, eC_UnknownObject, tC_UnknownObject, kC_UnknownObject⟩
  have xfc_UnknownObject : XfC K CUnknownObject := ⟨ga_UnknownObject, gg_UnknownObject, eC_UnknownObject, hC_UnknownObject⟩
  have exc_UnknownObject : L2.ExcC K CUnknownObject := ⟨ga_UnknownObject, gg_UnknownObject, eC_UnknownObject, hC_UnknownObject, gc_UnknownObject, zs, zt, mC_UnknownObject⟩
  have T : Tx w K mg base := {
    d_law_feed := def_mk X G a0 l0 c0 k0 (fun _ _ _ _ _ _ us hl => match us, hl with | [_], _ => rfl)
    d_law_document := def_mk X G a1 l1 c1 k1 (fun _ _ _ _ _ _ us hl => match us, hl with | [], _ => rfl)
    d_law_outcome := def_mk X G a2 l2 c2 k2 (fun _ _ _ _ _ _ us hl => match us, hl with | [_], _ => rfl)
    d_law_laps := def_mk X G a3 l3 c3 k3 (fun _ _ _ _ _ _ us hl => match us, hl with | [_, _], _ => rfl)
    d_law_draw := def_mk X G a4 l4 c4 k4 (fun _ _ _ _ _ _ us hl => match us, hl with | [_, _], _ => rfl)
    d_law_any := def_mk X G a5 l5 c5 k5 (fun _ _ _ _ _ _ us hl => match us, hl with | [_, _], _ => rfl)
    d_law_fitting := def_mk X G a6 l6 c6 k6 (fun _ _ _ _ _ _ us hl => match us, hl with | [_, _, _], _ => rfl)
    d_law_values := def_mk X G a7 l7 c7 k7 (fun _ _ _ _ _ _ us hl => match us, hl with | [_, _, _], _ => rfl)
    d_law_house := def_mk X G a8 l8 c8 k8 (fun _ _ _ _ _ _ us hl => match us, hl with | [_, _, _], _ => rfl)
    d_law_lot := def_mk X G a9 l9 c9 k9 (fun _ _ _ _ _ _ us hl => match us, hl with | [_, _], _ => rfl)
    d_law_classes := def_mk X G a10 l10 c10 k10 (fun _ _ _ _ _ _ us hl => match us, hl with | [_], _ => rfl)
    d_is_integer := def_mk X G a11 l11 c11 k11 (fun _ _ _ _ _ _ us hl => match us, hl with | [_], _ => rfl)
    d_classes_of := def_mk X G a12 l12 c12 k12 (fun _ _ _ _ _ _ us hl => match us, hl with | [_], _ => rfl)
    d_check_number := def_mk X G a13 l13 c13 k13 (fun _ _ _ _ _ _ us hl => match us, hl with | [_, _], _ => rfl)
    d_is_link := def_mk X G a14 l14 c14 k14 (fun _ _ _ _ _ _ us hl => match us, hl with | [_], _ => rfl)
    d_unlinked := def_mk X G a15 l15 c15 k15 (fun _ _ _ _ _ _ us hl => match us, hl with | [_, _, _], _ => rfl)
    d_dropped := def_mk X G a16 l16 c16 k16 (fun _ _ _ _ _ _ us hl => match us, hl with | [_, _], _ => rfl)
    d_law_some_item := def_mk X G a17 l17 c17 k17 (fun _ _ _ _ _ _ us hl => match us, hl with | [_, _], _ => rfl)
    d_law_some_lots := def_mk X G a18 l18 c18 k18 (fun _ _ _ _ _ _ us hl => match us, hl with | [_, _, _], _ => rfl)
    d_law_is_integer := def_mk X G a19 l19 c19 k19 (fun _ _ _ _ _ _ us hl => match us, hl with | [_], _ => rfl)
    d_law_suits := def_mk X G a20 l20 c20 k20 (fun _ _ _ _ _ _ us hl => match us, hl with | [_, _, _], _ => rfl)
    d_law_made_due := def_mk X G a21 l21 c21 k21 (fun _ _ _ _ _ _ us hl => match us, hl with | [_, _, _], _ => rfl)
    d_form_of := def_mk X G a22 l22 c22 k22 (fun _ _ _ _ _ _ us hl => match us, hl with | [_, _], _ => rfl)
    d_in_range := def_mk X G a23 l23 c23 k23 (fun _ _ _ _ _ _ us hl => match us, hl with | [_, _], _ => rfl)
    d_is_number := def_mk X G a24 l24 c24 k24 (fun _ _ _ _ _ _ us hl => match us, hl with | [_], _ => rfl)
    d_suits := def_mk X G a25 l25 c25 k25 (fun _ _ _ _ _ _ us hl => match us, hl with | [_, _, _], _ => rfl)
    d_all_suit := def_mk X G a26 l26 c26 k26 (fun _ _ _ _ _ _ us hl => match us, hl with | [_, _, _], _ => rfl)
    d_made_by := def_mk X G a27 l27 c27 k27 (fun _ _ _ _ _ _ us hl => match us, hl with | [_, _], _ => rfl)
    d_made := st_mk X G a28 l28 c28 k28 (StX.bind_star2 (B := fun vs => bindArgs _ ⟨vs, []⟩) (fun _ _ => rfl) (fun _ _ _ _ => rfl))
    d_law_make := def_mk X G a29 l29 c29 k29 (fun _ _ _ _ _ _ us hl => match us, hl with | [_, _, _], _ => rfl)
    d_law_making_right := def_mk X G a30 l30 c30 k30 (fun _ _ _ _ _ _ us hl => match us, hl with | [_, _], _ => rfl)
    d_law_some_number := def_mk X G a31 l31 c31 k31 (fun _ _ _ _ _ _ us hl => match us, hl with | [_, _], _ => rfl)
    d_law_is_member := def_mk X G a32 l32 c32 k32 (fun _ _ _ _ _ _ us hl => match us, hl with | [_, _], _ => rfl)
    d_law_some_label := def_mk X G a33 l33 c33 k33 (fun _ _ _ _ _ _ us hl => match us, hl with | [_, _, _], _ => rfl)
    d_law_written_due := def_mk X G a34 l34 c34 k34 (fun _ _ _ _ _ _ us hl => match us, hl with | [_, _, _, _], _ => rfl)
    d_law_dropped_due := def_mk X G a35 l35 c35 k35 (fun _ _ _ _ _ _ us hl => match us, hl with | [_, _], _ => rfl)
    d_place_of := def_mk X G a36 l36 c36 k36 (fun _ _ _ _ _ _ us hl => match us, hl with | [_, _], _ => rfl)
    d_with_value := def_mk X G a37 l37 c37 k37 (fun _ _ _ _ _ _ us hl => match us, hl with | [_, _, _], _ => rfl)
    d_written_by := def_mk X G a38 l38 c38 k38 (fun _ _ _ _ _ _ us hl => match us, hl with | [_, _], _ => rfl)
    d_written := def_mk X G a39 l39 c39 k39 (fun _ _ _ _ _ _ us hl => match us, hl with | [_, _, _, _], _ => rfl)
    d_law_others_right := def_mk X G a40 l40 c40 k40 (fun _ _ _ _ _ _ us hl => match us, hl with | [_, _], _ => rfl)
    d_law := def_mk X G a41 l41 c41 k41 (fun _ _ _ _ _ _ us hl => match us, hl with | [_], _ => rfl)
    b_ValueError := PySem.W.mg_none_of X G zb_ValueError
    b_all := PySem.W.mg_none_of X G zb_all
    b_bool := PySem.W.mg_none_of X G zb_bool
    b_dict := PySem.W.mg_none_of X G zb_dict
    b_enumerate := PySem.W.mg_none_of X G zb_enumerate
    b_int := PySem.W.mg_none_of X G zb_int
    b_isinstance := PySem.W.mg_none_of X G zb_isinstance
    b_len := PySem.W.mg_none_of X G zb_len
    b_list := PySem.W.mg_none_of X G zb_list
    b_min := PySem.W.mg_none_of X G zb_min
    b_range := PySem.W.mg_none_of X G zb_range
    b_repr := PySem.W.mg_none_of X G zb_repr
    b_str := PySem.W.mg_none_of X G zb_str
    b_tuple := PySem.W.mg_none_of X G zb_tuple
    b_zip := PySem.W.mg_none_of X G zb_zip
    n_LateError := ⟨_, PySem.W.mg_of X G g_LateError, List.forall_mem_cons.mpr ⟨⟨⟨_, PySem.W.mg_of X G g_InvalidStep, es_InvalidStep_LateError⟩⟩, List.forall_mem_cons.mpr ⟨⟨⟨_, PySem.W.mg_of X G g_UnknownObject, es_UnknownObject_LateError⟩⟩, fun _ z => (nomatch z)⟩⟩⟩
    x_InvalidStep := ⟨⟨CInvalidStep, f1InvalidStep, _, _, i_InvalidStep, _, _, _, _, _, _, _, _, ⟨PySem.W.mg_of X G g_InvalidStep, oex_InvalidStep⟩, nf_InvalidStep_step, nf_InvalidStep_word, fi_InvalidStep, ft_InvalidStep, fun_mk fl_InvalidStep fc_InvalidStep fk_InvalidStep, ⟨rfl, rfl, rfl, by decide +kernel, rfl, by decide +kernel, by decide +kernel⟩, rfl, (fun_mk fl_InvalidStep fc_InvalidStep fk_InvalidStep).binds (fun _ _ _ _ _ _ us hl => match us, hl with | [_, _, _], _ => rfl)⟩⟩
    x_UnknownObject := ⟨⟨CUnknownObject, f1UnknownObject, _, _, i_UnknownObject, _, _, _, _, ⟨PySem.W.mg_of X G g_UnknownObject, oex_UnknownObject⟩, nf_UnknownObject_number, fi_UnknownObject, ft_UnknownObject, fun_mk fl_UnknownObject fc_UnknownObject fk_UnknownObject, ⟨rfl, rfl, rfl, by decide +kernel, rfl, by decide +kernel, by decide +kernel⟩, rfl, (fun_mk fl_UnknownObject fc_UnknownObject fk_UnknownObject).binds (fun _ _ _ _ _ _ us hl => match us, hl with | [_, _], _ => rfl)⟩⟩
    L_InvalidStep := ⟨⟨CInvalidStep, PySem.W.mg_of X G g_InvalidStep, xfc_InvalidStep, exc_InvalidStep, List.forall_mem_cons.mpr ⟨nf_InvalidStep_at, List.forall_mem_cons.mpr ⟨nf_InvalidStep_field, List.forall_mem_cons.mpr ⟨nf_InvalidStep_number, List.forall_mem_cons.mpr ⟨nf_InvalidStep_path, List.forall_mem_cons.mpr ⟨nf_InvalidStep_row, List.forall_mem_cons.mpr ⟨nf_InvalidStep_step, List.forall_mem_cons.mpr ⟨nf_InvalidStep_word, fun _ z => (nomatch z)⟩⟩⟩⟩⟩⟩⟩⟩⟩
    L_UnknownObject := ⟨⟨CUnknownObject, PySem.W.mg_of X G g_UnknownObject, xfc_UnknownObject, exc_UnknownObject, List.forall_mem_cons.mpr ⟨nf_UnknownObject_at, List.forall_mem_cons.mpr ⟨nf_UnknownObject_field, List.forall_mem_cons.mpr ⟨nf_UnknownObject_number, List.forall_mem_cons.mpr ⟨nf_UnknownObject_path, List.forall_mem_cons.mpr ⟨nf_UnknownObject_row, List.forall_mem_cons.mpr ⟨nf_UnknownObject_step, List.forall_mem_cons.mpr ⟨nf_UnknownObject_word, fun _ z => (nomatch z)⟩⟩⟩⟩⟩⟩⟩⟩⟩
    k_InvalidPaper := List.forall_mem_cons.mpr ⟨⟨⟨_, _, PySem.W.mg_of X G g_InvalidStep, PySem.W.mg_of X G g_InvalidPaper, ki_InvalidStep_InvalidPaper⟩⟩, List.forall_mem_cons.mpr ⟨⟨⟨_, _, PySem.W.mg_of X G g_UnknownObject, PySem.W.mg_of X G g_InvalidPaper, ki_UnknownObject_InvalidPaper⟩⟩, fun _ z => (nomatch z)⟩⟩
    k_InvalidStep := List.forall_mem_cons.mpr ⟨⟨⟨_, _, PySem.W.mg_of X G g_InvalidStep, PySem.W.mg_of X G g_InvalidStep, ki_InvalidStep_InvalidStep⟩⟩, List.forall_mem_cons.mpr ⟨⟨⟨_, _, PySem.W.mg_of X G g_UnknownObject, PySem.W.mg_of X G g_InvalidStep, ki_UnknownObject_InvalidStep⟩⟩, fun _ z => (nomatch z)⟩⟩
    k_InvalidText := List.forall_mem_cons.mpr ⟨⟨⟨_, _, PySem.W.mg_of X G g_InvalidStep, PySem.W.mg_of X G g_InvalidText, ki_InvalidStep_InvalidText⟩⟩, List.forall_mem_cons.mpr ⟨⟨⟨_, _, PySem.W.mg_of X G g_UnknownObject, PySem.W.mg_of X G g_InvalidText, ki_UnknownObject_InvalidText⟩⟩, fun _ z => (nomatch z)⟩⟩
    k_PaperError := List.forall_mem_cons.mpr ⟨⟨⟨_, _, PySem.W.mg_of X G g_InvalidStep, PySem.W.mg_of X G g_PaperError, ki_InvalidStep_PaperError⟩⟩, List.forall_mem_cons.mpr ⟨⟨⟨_, _, PySem.W.mg_of X G g_UnknownObject, PySem.W.mg_of X G g_PaperError, ki_UnknownObject_PaperError⟩⟩, fun _ z => (nomatch z)⟩⟩
    k_StoreError := List.forall_mem_cons.mpr ⟨⟨⟨_, _, PySem.W.mg_of X G g_InvalidStep, PySem.W.mg_of X G g_StoreError, ki_InvalidStep_StoreError⟩⟩, List.forall_mem_cons.mpr ⟨⟨⟨_, _, PySem.W.mg_of X G g_UnknownObject, PySem.W.mg_of X G g_StoreError, ki_UnknownObject_StoreError⟩⟩, fun _ z => (nomatch z)⟩⟩
    k_TextError := List.forall_mem_cons.mpr ⟨⟨⟨_, _, PySem.W.mg_of X G g_InvalidStep, PySem.W.mg_of X G g_TextError, ki_InvalidStep_TextError⟩⟩, List.forall_mem_cons.mpr ⟨⟨⟨_, _, PySem.W.mg_of X G g_UnknownObject, PySem.W.mg_of X G g_TextError, ki_UnknownObject_TextError⟩⟩, fun _ z => (nomatch z)⟩⟩
    k_UnfitExpression := List.forall_mem_cons.mpr ⟨⟨⟨_, _, PySem.W.mg_of X G g_InvalidStep, PySem.W.mg_of X G g_UnfitExpression, ki_InvalidStep_UnfitExpression⟩⟩, List.forall_mem_cons.mpr ⟨⟨⟨_, _, PySem.W.mg_of X G g_UnknownObject, PySem.W.mg_of X G g_UnfitExpression, ki_UnknownObject_UnfitExpression⟩⟩, fun _ z => (nomatch z)⟩⟩
    k_UnknownObject := List.forall_mem_cons.mpr ⟨⟨⟨_, _, PySem.W.mg_of X G g_InvalidStep, PySem.W.mg_of X G g_UnknownObject, ki_InvalidStep_UnknownObject⟩⟩, List.forall_mem_cons.mpr ⟨⟨⟨_, _, PySem.W.mg_of X G g_UnknownObject, PySem.W.mg_of X G g_UnknownObject, ki_UnknownObject_UnknownObject⟩⟩, fun _ z => (nomatch z)⟩⟩
    kb_ValueError := List.forall_mem_cons.mpr ⟨⟨⟨_, PySem.W.mg_of X G g_InvalidStep, kb_InvalidStep_ValueError⟩⟩, List.forall_mem_cons.mpr ⟨⟨⟨_, PySem.W.mg_of X G g_UnknownObject, kb_UnknownObject_ValueError⟩⟩, fun _ z => (nomatch z)⟩⟩
    k_GoneCell_NothingToUndo_InvalidPace_InvalidCommand := List.forall_mem_cons.mpr ⟨⟨⟨_, [CGoneCell, CNothingToUndo, CInvalidPace, CInvalidCommand], PySem.W.mg_of X G g_InvalidStep, .cons (PySem.W.mg_of X G g_GoneCell) (.cons (PySem.W.mg_of X G g_NothingToUndo) (.cons (PySem.W.mg_of X G g_InvalidPace) (.cons (PySem.W.mg_of X G g_InvalidCommand) (.nil)))), kt_InvalidStep_0⟩⟩, List.forall_mem_cons.mpr ⟨⟨⟨_, [CGoneCell, CNothingToUndo, CInvalidPace, CInvalidCommand], PySem.W.mg_of X G g_UnknownObject, .cons (PySem.W.mg_of X G g_GoneCell) (.cons (PySem.W.mg_of X G g_NothingToUndo) (.cons (PySem.W.mg_of X G g_InvalidPace) (.cons (PySem.W.mg_of X G g_InvalidCommand) (.nil)))), kt_UnknownObject_0⟩⟩, fun _ z => (nomatch z)⟩⟩
    l_law_making_right := ⟨cc30, tt30, tab_code X G q30, hTB (cc30, tt30) (by simp), (by show (_, _) ∈ ([(tt30, "_law_making_right.<locals>.<lambda>"), (tt40, "_law_others_right.<locals>.<lambda>"), (tt41, "law.<locals>.<lambda>")] : List (Addr × Str)); simp), fun p hp e => by (have hp : p ∈ ([(tt30, "_law_making_right.<locals>.<lambda>"), (tt40, "_law_others_right.<locals>.<lambda>"), (tt41, "law.<locals>.<lambda>")] : List (Addr × Str)) := hp); simp only [List.mem_cons, List.not_mem_nil, or_false] at hp; rcases hp with rfl | rfl | rfl <;> first | rfl | exact absurd e tn_30_40 | exact absurd e tn_40_30 | exact absurd e tn_30_41 | exact absurd e tn_41_30 | exact absurd e tn_40_41 | exact absurd e tn_41_40⟩
    l_law_others_right := ⟨cc40, tt40, tab_code X G q40, hTB (cc40, tt40) (by simp), (by show (_, _) ∈ ([(tt30, "_law_making_right.<locals>.<lambda>"), (tt40, "_law_others_right.<locals>.<lambda>"), (tt41, "law.<locals>.<lambda>")] : List (Addr × Str)); simp), fun p hp e => by (have hp : p ∈ ([(tt30, "_law_making_right.<locals>.<lambda>"), (tt40, "_law_others_right.<locals>.<lambda>"), (tt41, "law.<locals>.<lambda>")] : List (Addr × Str)) := hp); simp only [List.mem_cons, List.not_mem_nil, or_false] at hp; rcases hp with rfl | rfl | rfl <;> first | rfl | exact absurd e tn_30_40 | exact absurd e tn_40_30 | exact absurd e tn_30_41 | exact absurd e tn_41_30 | exact absurd e tn_40_41 | exact absurd e tn_41_40⟩
    l_law := ⟨cc41, tt41, tab_code X G q41, hTB (cc41, tt41) (by simp), (by show (_, _) ∈ ([(tt30, "_law_making_right.<locals>.<lambda>"), (tt40, "_law_others_right.<locals>.<lambda>"), (tt41, "law.<locals>.<lambda>")] : List (Addr × Str)); simp), fun p hp e => by (have hp : p ∈ ([(tt30, "_law_making_right.<locals>.<lambda>"), (tt40, "_law_others_right.<locals>.<lambda>"), (tt41, "law.<locals>.<lambda>")] : List (Addr × Str)) := hp); simp only [List.mem_cons, List.not_mem_nil, or_false] at hp; rcases hp with rfl | rfl | rfl <;> first | rfl | exact absurd e tn_30_40 | exact absurd e tn_40_30 | exact absurd e tn_30_41 | exact absurd e tn_41_30 | exact absurd e tn_40_41 | exact absurd e tn_41_40⟩ }
  exact law_of (ok_law (P := P) (w := w) (base := base) T) hfa l41
end K18

open PySem PySem.W PyProof.Rows in
set_option maxRecDepth 100000 in
set_option maxHeartbeats 0 in
theorem PySem.Challenge.cw_lateforms_k18_plain_steps_done_holds : PySem.Challenge.rw_lateforms_k18_plain_steps_done.Holds := by
  w_on; o_law; k_head; (case hw => w_witness2)
  k_fill
  refine Fx.law_walk (l := PySem.Challenge.rw_lateforms_k18_plain_steps_done) (g := K18.g_law) (k := 11) (x := "_law_script") rfl rfl ⟨rfl, by decide, by decide⟩ (fun w h Y => by first | exact PySem.W.kIn_of Y | exact PySem.W.km_in_of Y) ?F (fun ns hn hb => @K18.law_true ⟨[]⟩ ns hn)
  case F =>
    intro w mg fa h HT KX G hmg
    refine' K18.all_mk HT KX G hmg ?a0 ?l0 ?c0 ?k0 ?a1 ?l1 ?c1 ?k1 ?a2 ?l2 ?c2 ?k2 ?a3 ?l3 ?c3 ?k3 ?a4 ?l4 ?c4 ?k4 ?a5 ?l5 ?c5 ?k5 ?a6 ?l6 ?c6 ?k6 ?a7 ?l7 ?c7 ?k7 ?a8 ?l8 ?c8 ?k8 ?a9 ?l9 ?c9 ?k9 ?a10 ?l10 ?c10 ?k10 ?a11 ?l11 ?c11 ?k11 ?a12 ?l12 ?c12 ?k12 ?a13 ?l13 ?c13 ?k13 ?a14 ?l14 ?c14 ?k14 ?a15 ?l15 ?c15 ?k15 ?a16 ?l16 ?c16 ?k16 ?a17 ?l17 ?c17 ?k17 ?a18 ?l18 ?c18 ?k18 ?a19 ?l19 ?c19 ?k19 ?a20 ?l20 ?c20 ?k20 ?a21 ?l21 ?c21 ?k21 ?a22 ?l22 ?c22 ?k22 ?a23 ?l23 ?c23 ?k23 ?a24 ?l24 ?c24 ?k24 ?a25 ?l25 ?c25 ?k25 ?a26 ?l26 ?c26 ?k26 ?a27 ?l27 ?c27 ?k27 ?a28 ?l28 ?c28 ?k28 ?a29 ?l29 ?c29 ?k29 ?a30 ?l30 ?c30 ?k30 ?t30 ?m30 ?a31 ?l31 ?c31 ?k31 ?a32 ?l32 ?c32 ?k32 ?a33 ?l33 ?c33 ?k33 ?a34 ?l34 ?c34 ?k34 ?a35 ?l35 ?c35 ?k35 ?a36 ?l36 ?c36 ?k36 ?a37 ?l37 ?c37 ?k37 ?a38 ?l38 ?c38 ?k38 ?a39 ?l39 ?c39 ?k39 ?a40 ?l40 ?c40 ?k40 ?t40 ?m40 ?a41 ?l41 ?c41 ?k41 ?t41 ?m41 ?td_30_40 ?td_30_41 ?td_40_41 ?zb_ValueError ?zb_all ?zb_bool ?zb_dict ?zb_enumerate ?zb_int ?zb_isinstance ?zb_len ?zb_list ?zb_min ?zb_range ?zb_repr ?zb_str ?zb_tuple ?zb_zip ?g_InvalidStep ?g_UnknownObject ?g_LateError ?g_InvalidPaper ?g_InvalidText ?g_PaperError ?g_StoreError ?g_TextError ?g_UnfitExpression ?g_GoneCell ?g_NothingToUndo ?g_InvalidPace ?g_InvalidCommand ?xL_InvalidStep ?sa_InvalidStep ?ga_InvalidStep ?gg_InvalidStep ?gc_InvalidStep ?eC_InvalidStep ?tC_InvalidStep ?kC_InvalidStep ?hC_InvalidStep ?mC_InvalidStep ?nf_InvalidStep_at ?nf_InvalidStep_field ?nf_InvalidStep_number ?nf_InvalidStep_path ?nf_InvalidStep_row ?nf_InvalidStep_step ?nf_InvalidStep_word ?fi_InvalidStep ?ft_InvalidStep ?fl_InvalidStep ?fc_InvalidStep ?fk_InvalidStep ?xL_UnknownObject ?sa_UnknownObject ?ga_UnknownObject ?gg_UnknownObject ?gc_UnknownObject ?eC_UnknownObject ?tC_UnknownObject ?kC_UnknownObject ?hC_UnknownObject ?mC_UnknownObject ?nf_UnknownObject_at ?nf_UnknownObject_field ?nf_UnknownObject_number ?nf_UnknownObject_path ?nf_UnknownObject_row ?nf_UnknownObject_step ?nf_UnknownObject_word ?fi_UnknownObject ?ft_UnknownObject ?fl_UnknownObject ?fc_UnknownObject ?fk_UnknownObject ?zs ?zt ?es_InvalidStep_LateError ?es_UnknownObject_LateError ?ki_InvalidStep_InvalidPaper ?ki_UnknownObject_InvalidPaper ?ki_InvalidStep_InvalidStep ?ki_UnknownObject_InvalidStep ?ki_InvalidStep_InvalidText ?ki_UnknownObject_InvalidText ?ki_InvalidStep_PaperError ?ki_UnknownObject_PaperError ?ki_InvalidStep_StoreError ?ki_UnknownObject_StoreError ?ki_InvalidStep_TextError ?ki_UnknownObject_TextError ?ki_InvalidStep_UnfitExpression ?ki_UnknownObject_UnfitExpression ?ki_InvalidStep_UnknownObject ?ki_UnknownObject_UnknownObject ?kt_InvalidStep_0 ?kt_UnknownObject_0 ?kb_InvalidStep_ValueError ?kb_UnknownObject_ValueError
    (case a0 => k_is)
    (case l0 => k_is)
    (case c0 => k_is)
    (case k0 => k_is)
    (case a1 => k_is)
    (case l1 => k_is)
    (case c1 => k_is)
    (case k1 => k_is)
    (case a2 => k_is)
    (case l2 => k_is)
    (case c2 => k_is)
    (case k2 => k_is)
    (case a3 => k_is)
    (case l3 => k_is)
    (case c3 => k_is)
    (case k3 => k_is)
    (case a4 => k_is)
    (case l4 => k_is)
    (case c4 => k_is)
    (case k4 => k_is)
    (case a5 => k_is)
    (case l5 => k_is)
    (case c5 => k_is)
    (case k5 => k_is)
    (case a6 => k_is)
    (case l6 => k_is)
    (case c6 => k_is)
    (case k6 => k_is)
    (case a7 => k_is)
    (case l7 => k_is)
    (case c7 => k_is)
    (case k7 => k_is)
    (case a8 => k_is)
    (case l8 => k_is)
    (case c8 => k_is)
    (case k8 => k_is)
    (case a9 => k_is)
    (case l9 => k_is)
    (case c9 => k_is)
    (case k9 => k_is)
    (case a10 => k_is)
    (case l10 => k_is)
    (case c10 => k_is)
    (case k10 => k_is)
    (case a11 => k_is)
    (case l11 => k_is)
    (case c11 => k_is)
    (case k11 => k_is)
    (case a12 => k_is)
    (case l12 => k_is)
    (case c12 => k_is)
    (case k12 => k_is)
    (case a13 => k_is)
    (case l13 => k_is)
    (case c13 => k_is)
    (case k13 => k_is)
    (case a14 => k_is)
    (case l14 => k_is)
    (case c14 => k_is)
    (case k14 => k_is)
    (case a15 => k_is)
    (case l15 => k_is)
    (case c15 => k_is)
    (case k15 => k_is)
    (case a16 => k_is)
    (case l16 => k_is)
    (case c16 => k_is)
    (case k16 => k_is)
    (case a17 => k_is)
    (case l17 => k_is)
    (case c17 => k_is)
    (case k17 => k_is)
    (case a18 => k_is)
    (case l18 => k_is)
    (case c18 => k_is)
    (case k18 => k_is)
    (case a19 => k_is)
    (case l19 => k_is)
    (case c19 => k_is)
    (case k19 => k_is)
    (case a20 => k_is)
    (case l20 => k_is)
    (case c20 => k_is)
    (case k20 => k_is)
    (case a21 => k_is)
    (case l21 => k_is)
    (case c21 => k_is)
    (case k21 => k_is)
    (case a22 => k_is)
    (case l22 => k_is)
    (case c22 => k_is)
    (case k22 => k_is)
    (case a23 => k_is)
    (case l23 => k_is)
    (case c23 => k_is)
    (case k23 => k_is)
    (case a24 => k_is)
    (case l24 => k_is)
    (case c24 => k_is)
    (case k24 => k_is)
    (case a25 => k_is)
    (case l25 => k_is)
    (case c25 => k_is)
    (case k25 => k_is)
    (case a26 => k_is)
    (case l26 => k_is)
    (case c26 => k_is)
    (case k26 => k_is)
    (case a27 => k_is)
    (case l27 => k_is)
    (case c27 => k_is)
    (case k27 => k_is)
    (case a28 => k_is)
    (case l28 => k_is)
    (case c28 => k_is)
    (case k28 => k_is)
    (case a29 => k_is)
    (case l29 => k_is)
    (case c29 => k_is)
    (case k29 => k_is)
    (case a30 => k_is)
    (case l30 => k_is)
    (case c30 => k_is)
    (case k30 => k_is)
    (case t30 => kernel_rfl)
    (case m30 => decide +kernel)
    (case a31 => k_is)
    (case l31 => k_is)
    (case c31 => k_is)
    (case k31 => k_is)
    (case a32 => k_is)
    (case l32 => k_is)
    (case c32 => k_is)
    (case k32 => k_is)
    (case a33 => k_is)
    (case l33 => k_is)
    (case c33 => k_is)
    (case k33 => k_is)
    (case a34 => k_is)
    (case l34 => k_is)
    (case c34 => k_is)
    (case k34 => k_is)
    (case a35 => k_is)
    (case l35 => k_is)
    (case c35 => k_is)
    (case k35 => k_is)
    (case a36 => k_is)
    (case l36 => k_is)
    (case c36 => k_is)
    (case k36 => k_is)
    (case a37 => k_is)
    (case l37 => k_is)
    (case c37 => k_is)
    (case k37 => k_is)
    (case a38 => k_is)
    (case l38 => k_is)
    (case c38 => k_is)
    (case k38 => k_is)
    (case a39 => k_is)
    (case l39 => k_is)
    (case c39 => k_is)
    (case k39 => k_is)
    (case a40 => k_is)
    (case l40 => k_is)
    (case c40 => k_is)
    (case k40 => k_is)
    (case t40 => kernel_rfl)
    (case m40 => decide +kernel)
    (case a41 => k_is)
    (case l41 => k_is)
    (case c41 => k_is)
    (case k41 => k_is)
    (case t41 => kernel_rfl)
    (case m41 => decide +kernel)
    (case td_30_40 => kernel_rfl)
    (case td_30_41 => kernel_rfl)
    (case td_40_41 => kernel_rfl)
    (case zb_ValueError => k_is)
    (case zb_all => k_is)
    (case zb_bool => k_is)
    (case zb_dict => k_is)
    (case zb_enumerate => k_is)
    (case zb_int => k_is)
    (case zb_isinstance => k_is)
    (case zb_len => k_is)
    (case zb_list => k_is)
    (case zb_min => k_is)
    (case zb_range => k_is)
    (case zb_repr => k_is)
    (case zb_str => k_is)
    (case zb_tuple => k_is)
    (case zb_zip => k_is)
    (case g_InvalidStep => k_is)
    (case g_UnknownObject => k_is)
    (case g_LateError => k_is)
    (case g_InvalidPaper => k_is)
    (case g_InvalidText => k_is)
    (case g_PaperError => k_is)
    (case g_StoreError => k_is)
    (case g_TextError => k_is)
    (case g_UnfitExpression => k_is)
    (case g_GoneCell => k_is)
    (case g_NothingToUndo => k_is)
    (case g_InvalidPace => k_is)
    (case g_InvalidCommand => k_is)
    (case xL_InvalidStep => k_is)
    (case sa_InvalidStep => k_is)
    (case ga_InvalidStep => k_is)
    (case gg_InvalidStep => k_is)
    (case gc_InvalidStep => k_is)
    (case eC_InvalidStep => k_is)
    (case tC_InvalidStep => k_is)
    (case kC_InvalidStep => k_is)
    (case hC_InvalidStep => k_is)
    (case mC_InvalidStep => k_is)
    (case nf_InvalidStep_at => k_is)
    (case nf_InvalidStep_field => k_is)
    (case nf_InvalidStep_number => k_is)
    (case nf_InvalidStep_path => k_is)
    (case nf_InvalidStep_row => k_is)
    (case nf_InvalidStep_step => k_is)
    (case nf_InvalidStep_word => k_is)
    (case fi_InvalidStep => k_is)
    (case ft_InvalidStep => k_is)
    (case fl_InvalidStep => k_is)
    (case fc_InvalidStep => k_is)
    (case fk_InvalidStep => k_is)
    (case xL_UnknownObject => k_is)
    (case sa_UnknownObject => k_is)
    (case ga_UnknownObject => k_is)
    (case gg_UnknownObject => k_is)
    (case gc_UnknownObject => k_is)
    (case eC_UnknownObject => k_is)
    (case tC_UnknownObject => k_is)
    (case kC_UnknownObject => k_is)
    (case hC_UnknownObject => k_is)
    (case mC_UnknownObject => k_is)
    (case nf_UnknownObject_at => k_is)
    (case nf_UnknownObject_field => k_is)
    (case nf_UnknownObject_number => k_is)
    (case nf_UnknownObject_path => k_is)
    (case nf_UnknownObject_row => k_is)
    (case nf_UnknownObject_step => k_is)
    (case nf_UnknownObject_word => k_is)
    (case fi_UnknownObject => k_is)
    (case ft_UnknownObject => k_is)
    (case fl_UnknownObject => k_is)
    (case fc_UnknownObject => k_is)
    (case fk_UnknownObject => k_is)
    (case zs => k_is)
    (case zt => k_is)
    (case es_InvalidStep_LateError => kernel_rfl)
    (case es_UnknownObject_LateError => kernel_rfl)
    (case ki_InvalidStep_InvalidPaper => kernel_rfl)
    (case ki_UnknownObject_InvalidPaper => kernel_rfl)
    (case ki_InvalidStep_InvalidStep => kernel_rfl)
    (case ki_UnknownObject_InvalidStep => kernel_rfl)
    (case ki_InvalidStep_InvalidText => kernel_rfl)
    (case ki_UnknownObject_InvalidText => kernel_rfl)
    (case ki_InvalidStep_PaperError => kernel_rfl)
    (case ki_UnknownObject_PaperError => kernel_rfl)
    (case ki_InvalidStep_StoreError => kernel_rfl)
    (case ki_UnknownObject_StoreError => kernel_rfl)
    (case ki_InvalidStep_TextError => kernel_rfl)
    (case ki_UnknownObject_TextError => kernel_rfl)
    (case ki_InvalidStep_UnfitExpression => kernel_rfl)
    (case ki_UnknownObject_UnfitExpression => kernel_rfl)
    (case ki_InvalidStep_UnknownObject => kernel_rfl)
    (case ki_UnknownObject_UnknownObject => kernel_rfl)
    (case kt_InvalidStep_0 => kernel_rfl)
    (case kt_UnknownObject_0 => kernel_rfl)
    (case kb_InvalidStep_ValueError => kernel_rfl)
    (case kb_UnknownObject_ValueError => kernel_rfl)

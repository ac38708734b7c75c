import PyProof.Rows.All
import Wide.All
import OpenK.AllK
import Wide.FinOn
import HandS.ForMost
import HandS.ForExc
import HandS.IsInst
import HandS.Lambda
import HandS.ExcInit
import HandS.ExcField
import HandS.TryOnly
import HandS.TupAny
import HandS.Deep
import HandS.Conv
import HandS.Style
import PyProof.Rows.IntBool
import HandS.WordsExc
import KE.KDictPairs
import HandS.Dict
import HandS.More
import HandS.EndBits
import KE.KNestM
import HandS.Zip
import KE.KExcIs
import HandS.ExcIs
import KE.GoesEnum
import HandS.DictComp
import PySem.Challenge.RW_lateforms_k03_plain_stores_checked
set_option Elab.async false
set_option linter.all false
set_option maxRecDepth 100000
set_option maxHeartbeats 4000000
/-! ## Fx0 -/
section
namespace Fx
open PySem PySem.Spec PyProof.Rows L2

/-- the tables of code objects that a law may write: the table's address, the name of what it tells -/
class Tabl where
  T : List (Addr × Str)
variable [tb : Tabl]
/-- plain data; obj n is the n-th thing of the store; err a dd ns ds the caught exception at a, its dict at dd, its fields -/
inductive D where
  | non | bl (b : Bool) | int (i : Int) | str (x : Str) | lst (xs : List D) | tup (xs : List D) | obj (n : Nat) | scr (ns : List Int) | err (a dd : Addr) (ns : List Str) (ds : List D) | utp (xs : List D)

/-- a thing of the store -/
inductive OD where
  | lst (xs : List D) | dct (kvs : List (Key × D))

abbrev Store := List (Option OD)
abbrev Env := List (Option D)

/-- a tuple without a dict of its own -/
def SqC (K : PySem.W.Frag) (H : Hp) (a : Addr) (xs : List V) : Prop :=
  (∃ o, H a = some (.frz o (.tup xs)) ∧ o.dict = none) ∨ ∃ (o : Obj) (its : Array Value) (n : Nat), K.lookup a = some o ∧ o.cls = .type "tuple" ∧ o.dict = none ∧ o.data = .seq its n ∧ its.size ≤ sizeLine ∧ Vals xs its.toList
theorem SqC.sq {K : PySem.W.Frag} {H : Hp} {a : Addr} {xs : List V} (h : SqC K H a xs) : SqT K H a xs := by
  rcases h with ⟨o, h, _⟩ | ⟨o, its, n, h1, h2, _, h3⟩
  · exact .inl (.inr ⟨o, h⟩)
  · exact .inr ⟨o, its, n, h1, h2, h3⟩
theorem sqC_mono {K : PySem.W.Frag} {F F' : Hp} (h : ∀ a o, F a = some o → F' a = some o) {a : Addr} {xs : List V} (q : SqC K F a xs) : SqC K F' a xs := by
  rcases q with ⟨o, q, z⟩ | q
  · exact .inl ⟨o, h _ _ q, z⟩
  · exact .inr q
section
variable (K : PySem.W.Frag) (F : Hp) (ad : Nat → Addr) (L : Nat)
mutual
def DP : D → V → Prop
  | .non, v => v = .non
  | .bl b, v => v = .bl b
  | .int i, v => v = .int i
  | .str x, v => v = .str x
  | .lst ds, v => ∃ a xs, v = .ref a ∧ F a = some (.lst xs) ∧ DPs ds xs
  | .tup ds, v => ∃ a xs, v = .ref a ∧ SqC K F a xs ∧ DPs ds xs
  | .utp ds, v => ∃ a xs, v = .ref a ∧ SqT K F a xs ∧ DPs ds xs
  | .obj n, v => n < L ∧ v = .ref (ad n)
  | .scr ns, v => ∃ a, v = .ref a ∧ SqL K F a (ns.map V.int)
  | .err a dd ns ds, v => v = .ref a ∧ ∃ vs : List (Str × V), F dd = some (.xd vs) ∧ vs.map (·.1) = ns ∧ DPs ds (vs.map (·.2))
def DPs : List D → List V → Prop
  | [], vs => vs = []
  | d :: ds, vs => ∃ v r, vs = v :: r ∧ DP d v ∧ DPs ds r
end
def DPk : List (Key × D) → List (Key × V) → Prop
  | [], vs => vs = []
  | (k, d) :: ds, vs => ∃ v r, vs = (k, v) :: r ∧ DP K F ad L d v ∧ DPk ds r
def OR : OD → HO → Prop
  | .lst ds, o => ∃ xs, o = .lst xs ∧ DPs K F ad L ds xs
  | .dct kvs, o => ∃ vs, o = .dK vs ∧ DPk K F ad L kvs vs
end

structure RS (K : PySem.W.Frag) (F : Hp) (ad : Nat → Addr) (S : Store) (H : Hp) : Prop where
  sub : ∀ a o, F a = some o → H a = some o
  liv : ∀ n od, S[n]? = some (some od) → F (ad n) = none ∧ ∃ o, H (ad n) = some o ∧ OR K F ad S.length od o
  inj : ∀ n m od od', S[n]? = some (some od) → S[m]? = some (some od') → ad n = ad m → n = m
  tab : LamX.Tabs tb.T H
  ntb : ∀ a ps, F a ≠ some (.tbl ps)

/-- the address of a live thing -/
def Live (S : Store) (ad : Nat → Addr) (a : Addr) : Prop := ∃ n od, S[n]? = some (some od) ∧ ad n = a

/-- nothing stands at a, or a table -/
def Fr (H : Hp) (a : Addr) : Prop := H a = none ∨ ∃ ps, H a = some (.tbl ps)
structure Nx (F : Hp) (ad : Nat → Addr) (S : Store) (H : Hp) (F' : Hp) (ad' : Nat → Addr) (S' : Store) (H' : Hp) : Prop where
  fsub : ∀ a o, F a = some o → F' a = some o
  fnew : ∀ a o, F' a = some o → F a = some o ∨ Fr H a ∨ Live S ad a
  len : S.length ≤ S'.length
  adk : ∀ n, n < S.length → ad' n = ad n
  snew : ∀ n od', S'[n]? = some (some od') → (∃ od, S[n]? = some (some od)) ∨ Fr H (ad' n)
  keep : ∀ a o, H a = some o → ¬ Live S ad a → (∀ ps, o ≠ .tbl ps) → H' a = some o
  back : ∀ a, Fr H' a → Fr H a

theorem lt_of_some {α : Type} {l : List α} {n : Nat} {x : α} (h : l[n]? = some x) : n < l.length := (List.getElem?_eq_some_iff.mp h).1

theorem Nx.refl {F ad S H} : Nx F ad S H F ad S H :=
  ⟨fun _ _ h => h, fun _ _ h => .inl h, Nat.le_refl _, fun _ _ => rfl, fun n od h => .inl ⟨od, h⟩, fun _ _ h _ _ => h, fun _ h => h⟩

theorem Nx.live_back {F ad S H F' ad' S' H'} (x : Nx F ad S H F' ad' S' H') {a : Addr} (h : Live S' ad' a) : Live S ad a ∨ Fr H a := by
  obtain ⟨n, od, h1, h2⟩ := h
  rcases x.snew n od h1 with ⟨od0, h3⟩ | h3
  · exact .inl ⟨n, od0, h3, by rw [← x.adk n (lt_of_some h3)]; exact h2⟩
  · rw [h2] at h3; exact .inr h3

theorem fr_no {H : Hp} {a : Addr} {o : HO} (h : H a = some o) (n : ∀ ps, o ≠ .tbl ps) (f : Fr H a) : False := by
  rcases f with q | ⟨ps, q⟩
  · rw [h] at q; cases q
  · rw [h] at q; exact n ps (Option.some.inj q)
theorem Nx.trans {F ad S H F1 ad1 S1 H1 F2 ad2 S2 H2} (x : Nx F ad S H F1 ad1 S1 H1) (y : Nx F1 ad1 S1 H1 F2 ad2 S2 H2) : Nx F ad S H F2 ad2 S2 H2 := by
  refine ⟨fun a o h => y.fsub a o (x.fsub a o h), fun a o h => ?_, Nat.le_trans x.len y.len, fun n h => ?_, fun n od h => ?_, fun a o h hl ht => ?_, fun a h => x.back a (y.back a h)⟩
  · rcases y.fnew a o h with h | h | h
    · exact x.fnew a o h
    · exact .inr (.inl (x.back a h))
    · rcases x.live_back h with h | h
      · exact .inr (.inr h)
      · exact .inr (.inl h)
  · rw [y.adk n (Nat.lt_of_lt_of_le h x.len), x.adk n h]
  · rcases y.snew n od h with ⟨od1, h1⟩ | h1
    · rcases x.snew n od1 h1 with h2 | h2
      · exact .inl h2
      · rw [y.adk n (lt_of_some h1)]; exact .inr h2
    · exact .inr (x.back _ h1)
  · exact y.keep a o (x.keep a o h hl ht) (fun h2 => (x.live_back h2).elim hl fun q => fr_no h ht q) ht

/-! ### growing -/
structure Gr (F : Hp) (ad : Nat → Addr) (L : Nat) (F' : Hp) (ad' : Nat → Addr) (L' : Nat) : Prop where
  f : ∀ a o, F a = some o → F' a = some o
  l : L ≤ L'
  a : ∀ n, n < L → ad' n = ad n
theorem Nx.gr {F ad S H F' ad' S' H'} (x : Nx F ad S H F' ad' S' H') : Gr F ad S.length F' ad' S'.length := ⟨x.fsub, x.len, x.adk⟩
theorem Gr.refl {F ad L} : Gr F ad L F ad L := ⟨fun _ _ h => h, Nat.le_refl _, fun _ _ => rfl⟩

section
variable {K : PySem.W.Frag} {F F' H : Hp} {ad ad' : Nat → Addr} {L L' : Nat}
theorem sqL_mono {F F' : Hp} (h : ∀ a o, F a = some o → F' a = some o) {a : Addr} {xs : List V} (q : SqL K F a xs) : SqL K F' a xs := Same.seq h q
theorem sqT_mono {F F' : Hp} (h : ∀ a o, F a = some o → F' a = some o) {a : Addr} {xs : List V} (q : SqT K F a xs) : SqT K F' a xs := by
  rcases q with (q | ⟨o, q⟩) | q
  · exact .inl (.inl (h _ _ q))
  · exact .inl (.inr ⟨o, h _ _ q⟩)
  · exact .inr q
mutual
theorem DP.mono (g : Gr F ad L F' ad' L') : ∀ (d : D) (v : V), DP K F ad L d v → DP K F' ad' L' d v
  | .non, _, h => h
  | .bl _, _, h => h
  | .int _, _, h => h
  | .str _, _, h => h
  | .lst ds, v, ⟨a, xs, e, q, r⟩ => ⟨a, xs, e, g.f _ _ q, DPs.mono g ds xs r⟩
  | .tup ds, v, ⟨a, xs, e, q, r⟩ => ⟨a, xs, e, sqC_mono g.f q, DPs.mono g ds xs r⟩
  | .utp ds, v, ⟨a, xs, e, q, r⟩ => ⟨a, xs, e, sqT_mono g.f q, DPs.mono g ds xs r⟩
  | .obj n, v, ⟨h1, h2⟩ => ⟨Nat.lt_of_lt_of_le h1 g.l, by rw [g.a n h1]; exact h2⟩
  | .scr _, _, ⟨a, e, q⟩ => ⟨a, e, sqL_mono g.f q⟩
  | .err _ _ _ ds, _, ⟨h1, vs, h2, h3, h4⟩ => ⟨h1, vs, g.f _ _ h2, h3, DPs.mono g ds _ h4⟩
theorem DPs.mono (g : Gr F ad L F' ad' L') : ∀ (ds : List D) (vs : List V), DPs K F ad L ds vs → DPs K F' ad' L' ds vs
  | [], _, h => h
  | d :: ds, _, ⟨v, r, e, h1, h2⟩ => ⟨v, r, e, DP.mono g d v h1, DPs.mono g ds r h2⟩
end
theorem DPk.mono (g : Gr F ad L F' ad' L') : ∀ (ds : List (Key × D)) (vs : List (Key × V)), DPk K F ad L ds vs → DPk K F' ad' L' ds vs
  | [], _, h => h
  | (k, d) :: ds, _, ⟨v, r, e, h1, h2⟩ => ⟨v, r, e, DP.mono g d v h1, DPk.mono g ds r h2⟩
theorem OR.mono (g : Gr F ad L F' ad' L') : ∀ (d : OD) (o : HO), OR K F ad L d o → OR K F' ad' L' d o
  | .lst ds, _, ⟨xs, e, h⟩ => ⟨xs, e, DPs.mono g ds xs h⟩
  | .dct ds, _, ⟨xs, e, h⟩ => ⟨xs, e, DPk.mono g ds xs h⟩

theorem DPs.length : ∀ {ds : List D} {vs : List V}, DPs K F ad L ds vs → ds.length = vs.length
  | [], _, h => by cases h; rfl
  | _ :: ds, _, ⟨v, r, e, _, h⟩ => by cases e; simp [DPs.length h]
theorem DPs.get : ∀ {ds : List D} {vs : List V} {i : Nat} {v : V}, DPs K F ad L ds vs → vs[i]? = some v → ∃ d, ds[i]? = some d ∧ DP K F ad L d v
  | [], _, _, _, h, e => by cases h; cases e
  | d :: ds, _, 0, v, ⟨w, r, e1, h1, h2⟩, e => by cases e1; cases e; exact ⟨d, rfl, h1⟩
  | d :: ds, _, i + 1, v, ⟨w, r, e1, h1, h2⟩, e => by cases e1; exact DPs.get (i := i) h2 (by simpa using e)
theorem DPs.at : ∀ {ds : List D} {vs : List V} {i : Nat} {d : D}, DPs K F ad L ds vs → ds[i]? = some d → ∃ v, vs[i]? = some v ∧ DP K F ad L d v
  | [], _, _, _, h, e => by cases e
  | d :: ds, _, 0, _, ⟨w, r, e1, h1, h2⟩, e => by cases e1; cases e; exact ⟨w, rfl, h1⟩
  | d :: ds, _, i + 1, _, ⟨w, r, e1, h1, h2⟩, e => by cases e1; exact DPs.at (i := i) h2 (by simpa using e)
theorem DPs.append : ∀ {ds es : List D} {vs us : List V}, DPs K F ad L ds vs → DPs K F ad L es us → DPs K F ad L (ds ++ es) (vs ++ us)
  | [], _, _, _, h, k => by cases h; exact k
  | d :: ds, _, _, _, ⟨w, r, e1, h1, h2⟩, k => by cases e1; exact ⟨w, _, rfl, h1, DPs.append h2 k⟩
theorem DPs.take : ∀ {ds : List D} {vs : List V} (n : Nat), DPs K F ad L ds vs → DPs K F ad L (ds.take n) (vs.take n)
  | _, _, 0, _ => by simp [DPs]
  | [], _, _ + 1, h => by cases h; simp [DPs]
  | d :: ds, _, n + 1, ⟨w, r, e1, h1, h2⟩ => by cases e1; exact ⟨w, _, rfl, h1, DPs.take n h2⟩
theorem DPs.drop : ∀ {ds : List D} {vs : List V} (n : Nat), DPs K F ad L ds vs → DPs K F ad L (ds.drop n) (vs.drop n)
  | _, _, 0, h => h
  | [], _, _ + 1, h => by cases h; simp [DPs]
  | d :: ds, _, n + 1, ⟨w, r, e1, h1, h2⟩ => by cases e1; exact DPs.drop n h2
theorem DPs.one {d : D} {v : V} (h : DP K F ad L d v) : DPs K F ad L [d] [v] := ⟨v, [], rfl, h, rfl⟩
theorem DPs.reverse : ∀ {ds : List D} {vs : List V}, DPs K F ad L ds vs → DPs K F ad L ds.reverse vs.reverse
  | [], _, h => by cases h; exact rfl
  | d :: ds, _, ⟨w, r, e1, h1, h2⟩ => by
    cases e1
    rw [List.reverse_cons, List.reverse_cons]
    exact DPs.append (DPs.reverse h2) (DPs.one h1)
theorem DPs.eraseIdx : ∀ {ds : List D} {vs : List V} (i : Nat), DPs K F ad L ds vs → DPs K F ad L (ds.eraseIdx i) (vs.eraseIdx i)
  | [], _, _, h => by cases h; exact rfl
  | d :: ds, _, 0, ⟨w, r, e1, h1, h2⟩ => by cases e1; exact h2
  | d :: ds, _, i + 1, ⟨w, r, e1, h1, h2⟩ => by cases e1; exact ⟨w, _, rfl, h1, DPs.eraseIdx i h2⟩
theorem DPs.set {d : D} {v : V} (h : DP K F ad L d v) : ∀ {ds : List D} {vs : List V} (i : Nat), DPs K F ad L ds vs → DPs K F ad L (ds.set i d) (vs.set i v)
  | [], _, _, k => by cases k; exact rfl
  | _ :: ds, _, 0, ⟨w, r, e1, h1, h2⟩ => by cases e1; exact ⟨v, _, rfl, h, h2⟩
  | _ :: ds, _, i + 1, ⟨w, r, e1, h1, h2⟩ => by cases e1; exact ⟨w, _, rfl, h1, DPs.set h i h2⟩
end

/-- the slots -/
def RE (K : PySem.W.Frag) (F : Hp) (ad : Nat → Addr) (L : Nat) (env : Env) (σ : L2.St) : Prop := ∀ (i : Nat) (d : D), env[i]? = some (some d) → ∃ v, σ[i]? = some (some v) ∧ DP K F ad L d v
theorem RE.mono {K F ad L F' ad' L' env σ} (g : Gr F ad L F' ad' L') (h : RE K F ad L env σ) : RE K F' ad' L' env σ := fun i d e => by
  obtain ⟨v, h1, h2⟩ := h i d e
  exact ⟨v, h1, DP.mono g d v h2⟩
theorem RE.set {K F ad L env σ} {i : Nat} {d : D} {v : V} (h : RE K F ad L env σ) (hd : DP K F ad L d v) (hi : i < σ.length) : RE K F ad L (env.set i (some d)) (σ.set i (some v)) := fun j e q => by
  by_cases hj : i = j
  · subst hj
    by_cases hl : i < env.length
    · rw [List.getElem?_set_self hl] at q; cases q
      exact ⟨v, by rw [List.getElem?_set_self hi], hd⟩
    · rw [List.getElem?_eq_none (by simpa using hl)] at q; cases q
  · rw [List.getElem?_set_ne hj] at q ⊢
    exact h j e q

/-! ### what comes out -/
structure Ex where
  cls : String
  fs : List (Str × D)
inductive Rs (α : Type) where
  | ok (a : α) (S : Store) | ex (e : Ex) (S : Store) | no
abbrev M (α : Type) := Store → Rs α
def pur {α : Type} (a : α) : M α := fun S => .ok a S
def bd {α β : Type} (m : M α) (k : α → M β) : M β := fun S => match m S with
  | .ok a S' => k a S'
  | .ex e S' => .ex e S'
  | .no => .no
def mno {α : Type} : M α := fun _ => .no
def opt {α : Type} : Option α → M α
  | some a => pur a
  | none => mno
theorem bd_pur {α β : Type} (a : α) (k : α → M β) : bd (pur a) k = k a := rfl

/-- how an exception lies -/
def ER (K : PySem.W.Frag) (mg : Str → Option Value) (F : Hp) (ad : Nat → Addr) (L : Nat) (e : Ex) (cls : Value) (d : Option Addr) (H : Hp) : Prop :=
  ∃ C a fs, mg (Str.ofString e.cls) = some (.ref C) ∧ cls = .ref C ∧ d = some a ∧ F a = some (.xd fs) ∧ fs.map (·.1) = e.fs.map (·.1) ∧ DPs K F ad L (e.fs.map (·.2)) (fs.map (·.2))

/-- the end of an expression -/
def Fin {α β : Type} (X : Cx) (W : WX) (RR : Hp → (Nat → Addr) → Nat → α → β → Prop) (σ : L2.St) (F : Hp) (ad : Nat → Addr) (S : Store) (H : Hp) (r : Rs α) (Q : β → Hp → Prop) : Prop :=
  match r with
  | .ok d S' => ∀ v F' ad' H', Nx F ad S H F' ad' S' H' → RS X.K F' ad' S' H' → RR F' ad' S'.length d v → Q v H'
  | .ex e S' => ∀ cls dd F' ad' H', Nx F ad S H F' ad' S' H' → RS X.K F' ad' S' H' → ER X.K X.mg F' ad' S'.length e cls dd H' → W cls dd σ H'
  | .no => False
def tX {α β : Type} (X : Cx) (W : WX) (RR : Hp → (Nat → Addr) → Nat → α → β → Prop) (f : Env → M α) : L2.St → Hp → (β → Hp → Prop) → Prop := fun σ H Q =>
  ∃ F ad env S, RE X.K F ad S.length env σ ∧ RS X.K F ad S H ∧ Fin X W RR σ F ad S H (f env S) Q
/-- an expression by a function -/
def tF (X : Cx) (W : WX) (f : Env → M D) : TE := tX X W (DP X.K) f
def tB (X : Cx) (W : WX) (f : Env → M Bool) : TT := tX X W (fun _ _ _ b c => b = c) f
def tL (X : Cx) (W : WX) (f : Env → M (List D)) : TA := tX X W (DPs X.K) f

structure FE (X : Cx) (W : WX) (e : Expr) (f : Env → M D) : Prop where
  run : PE X e (tF X W f)
structure FT (X : Cx) (W : WX) (e : Expr) (f : Env → M Bool) : Prop where
  run : PT X e (tB X W f)
structure FW (X : Cx) (W : WX) (e : Expr) (f : Env → M Bool) : Prop where
  run : PW X e (tB X W f)
structure FA (X : Cx) (W : WX) (es : List Expr) (f : Env → M (List D)) : Prop where
  run : PA X es (tL X W f)

theorem PE.weak {X : Cx} {e : Expr} {t t' : TE} (h : PE X e t) (w : ∀ σ H Q, t' σ H Q → t σ H Q) : PE X e t' := ⟨fun pins s σ H Q I q => h.run pins s σ H Q I (w _ _ _ q)⟩
theorem PT.weak {X : Cx} {e : Expr} {t t' : TT} (h : PT X e t) (w : ∀ σ H Q, t' σ H Q → t σ H Q) : PT X e t' := ⟨fun pins s σ H Q I q => h.run pins s σ H Q I (w _ _ _ q)⟩
theorem PW.weak {X : Cx} {e : Expr} {t t' : TT} (h : PW X e t) (w : ∀ σ H Q, t' σ H Q → t σ H Q) : PW X e t' := ⟨fun wh pins s σ H Q I q => h.run wh pins s σ H Q I (w _ _ _ q)⟩
theorem PA.weak {X : Cx} {e : List Expr} {t t' : TA} (h : PA X e t) (w : ∀ σ H Q, t' σ H Q → t σ H Q) : PA X e t' := ⟨fun pos pins s σ H Q I q => h.run pos pins s σ H Q I (w _ _ _ q)⟩
theorem PS.weak {X : Cx} {e : Stmt} {t t' : TS} (h : PS X e t) (w : ∀ D σ H, t' D σ H → t D σ H) : PS X e t' := ⟨fun pins s σ H D I q => h.run pins s σ H D I (w _ _ _ q)⟩
theorem PSs.weak {X : Cx} {e : List Stmt} {t t' : TS} (h : PSs X e t) (w : ∀ D σ H, t' D σ H → t D σ H) : PSs X e t' := ⟨fun pins s σ H D I q => h.run pins s σ H D I (w _ _ _ q)⟩

/-- one after another: what the first part's reading needs -/
theorem Fin.seq {α β α' β' : Type} {X : Cx} {W : WX} {RR : Hp → (Nat → Addr) → Nat → α → β → Prop} {RR' : Hp → (Nat → Addr) → Nat → α' → β' → Prop} {m : M α} {k : α → M α'} {σ : L2.St} {H : Hp} {Q : β' → Hp → Prop} {Q1 : β → Hp → Prop}
    {F : Hp} {ad : Nat → Addr} {env : Env} {S : Store} (re : RE X.K F ad S.length env σ) (h : Fin X W RR' σ F ad S H (bd m k S) Q)
    (hk : ∀ F1 ad1 S1 d v H1, Nx F ad S H F1 ad1 S1 H1 → RE X.K F1 ad1 S1.length env σ → RS X.K F1 ad1 S1 H1 → RR F1 ad1 S1.length d v → Fin X W RR' σ F1 ad1 S1 H1 (k d S1) Q → Q1 v H1) :
    Fin X W RR σ F ad S H (m S) Q1 := by
  simp only [bd] at h
  cases e : m S with
  | ok d S1 =>
    rw [e] at h
    intro v F1 ad1 H1 n1 r1 p1
    refine hk F1 ad1 S1 d v H1 n1 (re.mono n1.gr) r1 p1 ?_
    have h : Fin X W RR' σ F ad S H (k d S1) Q := h
    cases e2 : k d S1 with
    | ok d2 S2 =>
      rw [e2] at h
      exact fun v2 F2 ad2 H2 n2 r2 p2 => h v2 F2 ad2 H2 (n1.trans n2) r2 p2
    | ex x S2 =>
      rw [e2] at h
      exact fun c dd F2 ad2 H2 n2 r2 p2 => h c dd F2 ad2 H2 (n1.trans n2) r2 p2
    | no => rw [e2] at h; exact h
  | ex x S1 => rw [e] at h; exact h
  | no => rw [e] at h; exact h
theorem Fin.pure {α β : Type} {X : Cx} {W : WX} {RR : Hp → (Nat → Addr) → Nat → α → β → Prop} {σ : L2.St} {H : Hp} {Q : β → Hp → Prop} {F : Hp} {ad : Nat → Addr} {S : Store} {d : α} {v : β}
    (rs : RS X.K F ad S H) (h : Fin X W RR σ F ad S H (pur d S) Q) (hd : RR F ad S.length d v) : Q v H := h v F ad H .refl rs hd

/-! ### the heap moves -/
section
variable {K : PySem.W.Frag} {F H : Hp} {ad : Nat → Addr} {S : Store} {p : Addr} {o : HO}
theorem F_none (rs : RS K F ad S H) (hp : H p = none) : F p = none := by
  cases q : F p with
  | none => rfl
  | some u => rw [rs.sub p u q] at hp; cases hp
theorem Gr.alloc {L : Nat} (h : F p = none) : Gr F ad L (upd F p o) ad L := ⟨fun a u e => by rw [upd_ne (ne_of_none e h)]; exact e, Nat.le_refl _, fun _ _ => rfl⟩
theorem or_ne {L : Nat} {od : OD} {u : HO} (h : OR K F ad L od u) : (∀ ps, u ≠ .tbl ps) ∧ ∀ c q, u ≠ LamX.CodeO c q := by
  cases od with
  | lst xs => obtain ⟨ys, rfl, _⟩ := h; exact ⟨fun ps z => (by cases z), fun c q z => by unfold LamX.CodeO at z; cases z⟩
  | dct xs => obtain ⟨ys, rfl, _⟩ := h; exact ⟨fun ps z => (by cases z), fun c q z => by unfold LamX.CodeO at z; cases z⟩
theorem tabs_put {T : List (Addr × Str)} {b : Addr} {u : HO} (t : LamX.Tabs T H) (hb : H b = some u) (h1 : ∀ ps, u ≠ .tbl ps) (h2 : ∀ c q, u ≠ LamX.CodeO c q) : LamX.Tabs T (upd H b o) := fun p hp => by
  obtain ⟨ps, e1, e2, e3⟩ := t p hp
  refine ⟨ps, by rw [upd_ne (fun z => by rw [z, hb] at e1; exact h1 ps (Option.some.inj e1))]; exact e1, e2, fun pos cv hc => ?_⟩
  obtain ⟨c, e4, e5⟩ := e3 pos cv hc
  exact ⟨c, e4, by
    have hcb : c ≠ b := fun z => by
      have e6 : H b = some (LamX.CodeO c p.2) := by rw [← z]; exact e5
      rw [hb] at e6
      exact h2 c p.2 (Option.some.inj e6)
    rw [upd_ne hcb]; exact e5⟩
theorem ntb_upd {F : Hp} {p : Addr} {o : HO} (h : ∀ a ps, F a ≠ some (.tbl ps)) (hn : ∀ ps, o ≠ .tbl ps) : ∀ a ps, upd F p o a ≠ some (.tbl ps) := fun a ps e => by
  by_cases ha : a = p
  · subst ha; rw [upd_same] at e; exact hn ps (Option.some.inj e)
  · rw [upd_ne ha] at e; exact h a ps e
theorem RS.alloc (rs : RS K F ad S H) (hp : H p = none) (hn : ∀ ps, o ≠ .tbl ps := by intro ps z; cases z) : RS K (upd F p o) ad S (upd H p o) := by
  have g : Gr F ad S.length (upd F p o) ad S.length := Gr.alloc (F_none rs hp)
  refine ⟨fun a u e => ?_, fun n od e => ?_, rs.inj, rs.tab.ext fun a u e => (by rw [upd_ne (ne_of_none e hp)]; exact e), ntb_upd rs.ntb hn⟩
  · by_cases ha : a = p
    · subst ha; rw [upd_same] at e ⊢; exact e
    · rw [upd_ne ha] at e ⊢; exact rs.sub a u e
  · obtain ⟨h1, u, h2, h3⟩ := rs.liv n od e
    have hn : ad n ≠ p := ne_of_none h2 hp
    exact ⟨by rw [upd_ne hn]; exact h1, u, by rw [upd_ne hn]; exact h2, OR.mono g od u h3⟩
theorem Nx.alloc (rs : RS K F ad S H) (hp : H p = none) : Nx F ad S H (upd F p o) ad S (upd H p o) := by
  refine ⟨(Gr.alloc (L := 0) (ad := ad) (F_none rs hp)).f, fun a u e => ?_, Nat.le_refl _, fun _ _ => rfl, fun n od e => .inl ⟨od, e⟩, fun a u e _ _ => by rw [upd_ne (ne_of_none e hp)]; exact e, fun a e => ?_⟩
  · by_cases ha : a = p
    · subst ha; exact .inr (.inl (.inl hp))
    · rw [upd_ne ha] at e; exact .inl e
  · by_cases ha : a = p
    · subst ha; exact .inl hp
    · unfold Fr at e ⊢; rw [upd_ne ha] at e; exact e

def adn (ad : Nat → Addr) (n : Nat) (p : Addr) : Nat → Addr := fun m => if m = n then p else ad m
theorem adn_same {n : Nat} : adn ad n p n = p := if_pos rfl
theorem adn_ne {n m : Nat} (h : m ≠ n) : adn ad n p m = ad m := if_neg h
theorem Gr.new {L : Nat} : Gr F ad L F (adn ad L p) (L + 1) := ⟨fun _ _ e => e, Nat.le_succ _, fun n h => adn_ne (Nat.ne_of_lt h)⟩
theorem new_cases {od od' : OD} {n : Nat} (e : (S ++ [some od])[n]? = some (some od')) : (n < S.length ∧ S[n]? = some (some od')) ∨ (n = S.length ∧ od' = od) := by
  by_cases hn : n < S.length
  · rw [List.getElem?_append_left hn] at e; exact .inl ⟨hn, e⟩
  · rw [List.getElem?_append_right (by omega)] at e
    have : n - S.length = 0 := by
      have := lt_of_some e
      simp at this; omega
    rw [this] at e
    simp at e
    exact .inr ⟨by omega, e.symm⟩
theorem RS.new {od : OD} (rs : RS K F ad S H) (hp : H p = none) (ho : OR K F (adn ad S.length p) (S.length + 1) od o) : RS K F (adn ad S.length p) (S ++ [some od]) (upd H p o) := by
  have hl : (S ++ [some od]).length = S.length + 1 := by simp
  refine ⟨fun a u e => ?_, fun n od' e => ?_, fun n m od1 od2 e1 e2 e => ?_, rs.tab.ext fun a u e => (by rw [upd_ne (ne_of_none e hp)]; exact e), rs.ntb⟩
  · have := rs.sub a u e
    rw [upd_ne (ne_of_none this hp)]; exact this
  · rw [hl]
    rcases new_cases e with ⟨hn, e'⟩ | ⟨hn, e'⟩
    · rw [adn_ne (Nat.ne_of_lt hn)]
      obtain ⟨h1, u, h2, h3⟩ := rs.liv n od' e'
      exact ⟨h1, u, by rw [upd_ne (ne_of_none h2 hp)]; exact h2, OR.mono Gr.new od' u h3⟩
    · subst hn; subst e'
      rw [adn_same]
      exact ⟨F_none rs hp, o, upd_same, ho⟩
  · rcases new_cases e1 with ⟨hn, e1⟩ | ⟨hn, e1⟩ <;> rcases new_cases e2 with ⟨hm, e2⟩ | ⟨hm, e2⟩
    · rw [adn_ne (Nat.ne_of_lt hn), adn_ne (Nat.ne_of_lt hm)] at e
      exact rs.inj n m _ _ e1 e2 e
    · subst hm
      rw [adn_ne (Nat.ne_of_lt hn), adn_same] at e
      obtain ⟨_, u, h2, _⟩ := rs.liv n _ e1
      rw [e, hp] at h2; cases h2
    · subst hn
      rw [adn_ne (Nat.ne_of_lt hm), adn_same] at e
      obtain ⟨_, u, h2, _⟩ := rs.liv m _ e2
      rw [← e, hp] at h2; cases h2
    · omega
theorem Nx.new {od : OD} (rs : RS K F ad S H) (hp : H p = none) : Nx F ad S H F (adn ad S.length p) (S ++ [some od]) (upd H p o) := by
  refine ⟨fun _ _ e => e, fun a u e => .inl e, by simp, fun n h => adn_ne (Nat.ne_of_lt h), fun n od' e => ?_, fun a u e _ _ => by rw [upd_ne (ne_of_none e hp)]; exact e, fun a e => ?_⟩
  · rcases new_cases e with ⟨hn, e⟩ | ⟨hn, e⟩
    · exact .inl ⟨od', e⟩
    · subst hn; rw [adn_same]; exact .inr (.inl hp)
  · by_cases ha : a = p
    · subst ha; exact .inl hp
    · unfold Fr at e ⊢; rw [upd_ne ha] at e; exact e

theorem set_cases {n m : Nat} {x y : Option OD} (e : (S.set n x)[m]? = some y) : (m = n ∧ y = x) ∨ (m ≠ n ∧ S[m]? = some y) := by
  by_cases h : n = m
  · subst h
    by_cases hl : n < S.length
    · rw [List.getElem?_set_self hl] at e; exact .inl ⟨rfl, (Option.some.inj e).symm⟩
    · rw [List.getElem?_eq_none (by simpa using hl)] at e; cases e
  · rw [List.getElem?_set_ne h] at e; exact .inr ⟨fun q => h q.symm, e⟩
theorem RS.put {n : Nat} {od od' : OD} (rs : RS K F ad S H) (e : S[n]? = some (some od)) (ho : OR K F ad S.length od' o) : RS K F ad (S.set n (some od')) (upd H (ad n) o) := by
  obtain ⟨h1, u, h2, h3⟩ := rs.liv n od e
  refine ⟨fun a u e => ?_, fun m od1 e1 => ?_, fun m k od1 od2 e1 e2 q => ?_, tabs_put rs.tab h2 (or_ne h3).1 (or_ne h3).2, rs.ntb⟩
  · have : a ≠ ad n := fun z => by subst z; rw [h1] at e; cases e
    rw [upd_ne this]; exact rs.sub a u e
  · rw [List.length_set]
    rcases set_cases e1 with ⟨rfl, e3⟩ | ⟨hm, e3⟩
    · cases e3
      exact ⟨h1, o, upd_same, ho⟩
    · obtain ⟨g1, w, g2, g3⟩ := rs.liv m od1 e3
      have : ad m ≠ ad n := fun z => hm (rs.inj m n _ _ e3 e z)
      exact ⟨g1, w, by rw [upd_ne this]; exact g2, g3⟩
  · have live : ∀ m od1, (S.set n (some od'))[m]? = some (some od1) → ∃ od0, S[m]? = some (some od0) := fun m od1 e1 => by
      rcases set_cases e1 with ⟨rfl, _⟩ | ⟨_, e1⟩
      · exact ⟨od, e⟩
      · exact ⟨od1, e1⟩
    obtain ⟨_, g1⟩ := live m od1 e1
    obtain ⟨_, g2⟩ := live k od2 e2
    exact rs.inj m k _ _ g1 g2 q
theorem Nx.put {n : Nat} {od od' : OD} (rs : RS K F ad S H) (e : S[n]? = some (some od)) (hn : ∀ ps, o ≠ .tbl ps := by intro ps z; cases z) : Nx F ad S H F ad (S.set n (some od')) (upd H (ad n) o) := by
  obtain ⟨h1, u, h2, h3⟩ := rs.liv n od e
  refine ⟨fun _ _ e => e, fun a u e => .inl e, by simp, fun _ _ => rfl, fun m od1 e1 => ?_, fun a u q hl _ => ?_, fun a q => ?_⟩
  · rcases set_cases e1 with ⟨rfl, _⟩ | ⟨_, e1⟩
    · exact .inl ⟨od, e⟩
    · exact .inl ⟨od1, e1⟩
  · rw [upd_ne (fun z => hl ⟨n, od, e, z.symm⟩)]; exact q
  · by_cases ha : a = ad n
    · subst ha; exact (fr_no upd_same hn q).elim
    · unfold Fr at q ⊢; rw [upd_ne ha] at q; exact q
/-- a thing of the store that is never changed again becomes plain -/
theorem RS.frz {n : Nat} {od : OD} (rs : RS K F ad S H) (e : S[n]? = some (some od)) (ho : H (ad n) = some o) : RS K (upd F (ad n) o) ad (S.set n none) H := by
  obtain ⟨h1, u, h2, h3⟩ := rs.liv n od e
  have g : Gr F ad S.length (upd F (ad n) o) ad S.length := Gr.alloc h1
  refine ⟨fun a u q => ?_, fun m od1 e1 => ?_, fun m k od1 od2 e1 e2 q => ?_, rs.tab, ntb_upd rs.ntb (by rw [ho] at h2; cases h2; exact (or_ne h3).1)⟩
  · by_cases ha : a = ad n
    · subst ha; rw [upd_same] at q; rw [← q]; exact ho
    · rw [upd_ne ha] at q; exact rs.sub a u q
  · rw [List.length_set]
    rcases set_cases e1 with ⟨_, e3⟩ | ⟨hm, e3⟩
    · cases e3
    · obtain ⟨g1, w, g2, g3⟩ := rs.liv m od1 e3
      have : ad m ≠ ad n := fun z => hm (rs.inj m n _ _ e3 e z)
      exact ⟨by rw [upd_ne this]; exact g1, w, g2, OR.mono g od1 w g3⟩
  · rcases set_cases e1 with ⟨_, e3⟩ | ⟨_, e3⟩
    · cases e3
    · rcases set_cases e2 with ⟨_, e4⟩ | ⟨_, e4⟩
      · cases e4
      · exact rs.inj m k _ _ e3 e4 q
theorem Nx.frz {n : Nat} {od : OD} (rs : RS K F ad S H) (e : S[n]? = some (some od)) : Nx F ad S H (upd F (ad n) o) ad (S.set n none) H := by
  obtain ⟨h1, u, h2, h3⟩ := rs.liv n od e
  refine ⟨(Gr.alloc (L := 0) (ad := ad) h1).f, fun a u q => ?_, by simp, fun _ _ => rfl, fun m od1 e1 => ?_, fun a u q _ _ => q, fun a q => q⟩
  · by_cases ha : a = ad n
    · exact .inr (.inr ⟨n, od, e, ha.symm⟩)
    · rw [upd_ne ha] at q; exact .inl q
  · rcases set_cases e1 with ⟨_, e3⟩ | ⟨_, e3⟩
    · cases e3
    · exact .inl ⟨od1, e3⟩
end

end Fx

end
/-! ## Fx1 -/
section
namespace Fx
open PySem PySem.Spec PyProof.Rows L2
variable [tb : Tabl]
section
variable {X : Cx} {W : WX} {pos : Pos} {a b c e : Expr} {f g f1 f2 f3 : Env → M D}

/-! ### leaves -/
theorem fe_int {i : Int} {j : Nat} : FE X W (.Constant (.int i) j pos) (fun _ => pur (.int i)) := ⟨PE.weak pe_int fun σ H Q ⟨F, ad, env, S, re, rs, h⟩ => Fin.pure rs h rfl⟩
theorem fe_bl {i : Bool} {j : Nat} : FE X W (.Constant (.bool i) j pos) (fun _ => pur (.bl i)) := ⟨PE.weak pe_bl fun σ H Q ⟨F, ad, env, S, re, rs, h⟩ => Fin.pure rs h rfl⟩
theorem fe_non {j : Nat} : FE X W (.Constant .none j pos) (fun _ => pur .non) := ⟨PE.weak pe_non fun σ H Q ⟨F, ad, env, S, re, rs, h⟩ => Fin.pure rs h rfl⟩
theorem fe_str {x : Str} {j : Nat} : FE X W (.Constant (.str x) j pos) (fun _ => pur (.str x)) := ⟨PE.weak pe_str fun σ H Q ⟨F, ad, env, S, re, rs, h⟩ => Fin.pure rs h rfl⟩
def getv (i : Nat) : Env → M D := fun env => match env[i]? with
  | some (some d) => pur d
  | _ => mno
theorem fe_var (i : Nat) {x : Str} (hN : X.N[i]? = some x := by rfl) (hv : Vis X.env.scope x := by first | exact Or.inl rfl | exact Or.inr (Or.inl rfl) | exact Or.inr (Or.inr rfl))
    (hd : (x == ("__debug__" : Str)) = false := by decide) (hcd : (x == ("__classdict__" : Str)) = false := by decide) : FE X W (.Name x pos) (getv i) := by
  refine ⟨PE.weak (pe_var hN hv hd hcd) fun σ H Q ⟨F, ad, env, S, re, rs, h⟩ => ?_⟩
  cases q : env[i]? with
  | none => simp only [getv, q] at h; exact h.elim
  | some d =>
    cases d with
    | none => simp only [getv, q] at h; exact h.elim
    | some d =>
      simp only [getv, q] at h
      obtain ⟨v, h1, h2⟩ := re i d q
      exact ⟨v, h1, Fin.pure rs h h2⟩
/-- a constant of the module -/
theorem fe_glob {x : Str} {d : D} {v : V} {u : Value} (hg : Gl X x) (hm : X.mg x = some u) (r : RelV v u) (hd : ∀ F ad L, DP X.K F ad L d v) (hdb : (x == ("__debug__" : Str)) = false := by decide) : FE X W (.Name x pos) (fun _ => pur d) :=
  ⟨PE.weak (pe_glob hg hm r hdb) fun σ H Q ⟨F, ad, env, S, re, rs, h⟩ => Fin.pure rs h (hd F ad S.length)⟩

/-! ### operators -/
def OpF (X : Cx) (f : Value → Value → Sem Value) (g : D → D → M D) : Prop :=
  ∃ r, OpR X f r ∧ ∀ (W : WX) (σ : L2.St) F ad S H x y v w (Q : VK), RS X.K F ad S H → DP X.K F ad S.length x v → DP X.K F ad S.length y w → Fin X W (DP X.K) σ F ad S H (g x y S) Q → r v w H Q
def bin (g : D → D → M D) (f1 f2 : Env → M D) : Env → M D := fun env => bd (f1 env) fun x => bd (f2 env) fun y => g x y
theorem seq2 {g : D → D → M D} {r : R2} (hg : ∀ (W : WX) (σ : L2.St) F ad S H x y v w (Q : VK), RS X.K F ad S H → DP X.K F ad S.length x v → DP X.K F ad S.length y w → Fin X W (DP X.K) σ F ad S H (g x y S) Q → r v w H Q)
    {σ : L2.St} {H : Hp} {Q : VK} (h : tF X W (bin g f1 f2) σ H Q) : tOp r (tF X W f1) (tF X W f2) σ H Q := by
  obtain ⟨F, ad, env, S, re, rs, h⟩ := h
  refine ⟨F, ad, env, S, re, rs, Fin.seq re h fun F1 ad1 S1 d v H1 n1 re1 rs1 dp1 h1 => ?_⟩
  refine ⟨F1, ad1, env, S1, re1, rs1, Fin.seq re1 h1 fun F2 ad2 S2 d2 w H2 n2 re2 rs2 dp2 h2 => ?_⟩
  exact hg W σ F2 ad2 S2 H2 d d2 v w Q rs2 (DP.mono n2.gr d v dp1) dp2 h2
theorem fe_bin {op : Operator} {g : D → D → M D} (ho : OpF X (binaryOp op) g) (ha : FE X W a f1) (hb : FE X W b f2) : FE X W (.BinOp a op b pos) (bin g f1 f2) := by
  obtain ⟨r, hr, hg⟩ := ho
  exact ⟨PE.weak (pe_op hr ha.run hb.run) fun σ H Q h => seq2 hg h⟩
theorem fe_cmp {op : CmpOp} {g : D → D → M D} (ho : OpF X (compareOp op) g) (ha : FE X W a f1) (hb : FE X W b f2) (hm : behindInMarks op b = false) : FE X W (.Compare a [op] [b] pos) (bin g f1 f2) := by
  obtain ⟨r, hr, hg⟩ := ho
  exact ⟨PE.weak (pe_cmpR hr ha.run hb.run hm) fun σ H Q h => seq2 hg h⟩
/-- a value that is a bool, as a test -/
def asB : D → M Bool
  | .bl c => pur c
  | _ => mno
def tst (f : Env → M D) : Env → M Bool := fun env => bd (f env) asB
theorem ft_val (h : FE X W e f) (he : ∀ whole, isTrue e X.env whole = (do let v ← whole; standAt e.pos; holding [v] (truthy v)) := by intro _; rfl) : FT X W e (tst f) := by
  refine ⟨PT.weak (pt_val h.run he) fun σ H Q ⟨F, ad, env, S, re, rs, h⟩ => ?_⟩
  refine ⟨F, ad, env, S, re, rs, Fin.seq re h fun F1 ad1 S1 d v H1 n1 re1 rs1 dp1 h1 => ?_⟩
  cases d <;> first
    | exact h1.elim
    | exact ⟨_, dp1, Fin.pure rs1 h1 rfl⟩
theorem ft_cmp {op : CmpOp} {g : D → D → M D} (ho : OpF X (compareOp op) g) (ha : FE X W a f1) (hb : FE X W b f2) (hm : behindInMarks op b = false) : FT X W (.Compare a [op] [b] pos) (tst (bin g f1 f2)) := by
  obtain ⟨r, hr, hg⟩ := ho
  refine ⟨PT.weak (pt_cmpR hr ha.run hb.run hm) fun σ H Q h => ?_⟩
  show tOp r (tF X W f1) (tF X W f2) σ H _
  refine seq2 hg ?_
  obtain ⟨F, ad, env, S, re, rs, h⟩ := h
  refine ⟨F, ad, env, S, re, rs, Fin.seq re h fun F1 ad1 S1 d v H1 n1 re1 rs1 dp1 h1 => ?_⟩
  cases d <;> first
    | exact h1.elim
    | exact ⟨_, dp1, Fin.pure rs1 h1 rfl⟩
/-! ### and, or, not -/
def andB (f g : Env → M Bool) : Env → M Bool := fun env => bd (f env) fun c => if c = true then g env else pur false
def orB (f g : Env → M Bool) : Env → M Bool := fun env => bd (f env) fun c => if c = true then pur true else g env
def notB (f : Env → M Bool) : Env → M Bool := fun env => bd (f env) fun c => pur (!c)
section
variable {p q : Env → M Bool} {rest : List Expr}
theorem FW.ft (h : FW X W e p) : FT X W e p := ⟨h.run.pt⟩
theorem fw_and1 (ha : FT X W a p) : FW X W (.BoolOp .And [a] pos) p := ⟨pw_and1 ha.run⟩
theorem fw_or1 (ha : FT X W a p) : FW X W (.BoolOp .Or [a] pos) p := ⟨pw_or1 ha.run⟩
theorem fw_and (ha : FT X W a p) (hb : FW X W (.BoolOp .And (b :: rest) pos) q) : FW X W (.BoolOp .And (a :: b :: rest) pos) (andB p q) := by
  refine ⟨PW.weak (pw_and ha.run hb.run) fun σ H Q ⟨F, ad, env, S, re, rs, h⟩ => ?_⟩
  refine ⟨F, ad, env, S, re, rs, Fin.seq re h fun F1 ad1 S1 d v H1 n1 re1 rs1 dp1 h1 => ?_⟩
  subst dp1
  cases d with
  | true => exact iteT ⟨F1, ad1, env, S1, re1, rs1, by simpa using h1⟩
  | false => exact iteF (Fin.pure (d := false) rs1 (by simpa using h1) rfl)
theorem fw_or (ha : FT X W a p) (hb : FW X W (.BoolOp .Or (b :: rest) pos) q) : FW X W (.BoolOp .Or (a :: b :: rest) pos) (orB p q) := by
  refine ⟨PW.weak (pw_or ha.run hb.run) fun σ H Q ⟨F, ad, env, S, re, rs, h⟩ => ?_⟩
  refine ⟨F, ad, env, S, re, rs, Fin.seq re h fun F1 ad1 S1 d v H1 n1 re1 rs1 dp1 h1 => ?_⟩
  subst dp1
  cases d with
  | true => exact iteT (Fin.pure (d := true) rs1 (by simpa using h1) rfl)
  | false => exact iteF ⟨F1, ad1, env, S1, re1, rs1, by simpa using h1⟩
theorem ft_not (ha : FT X W a p) : FT X W (.UnaryOp .Not a pos) (notB p) := by
  refine ⟨PT.weak (pt_not ha.run) fun σ H Q ⟨F, ad, env, S, re, rs, h⟩ => ?_⟩
  refine ⟨F, ad, env, S, re, rs, Fin.seq re h fun F1 ad1 S1 d v H1 n1 re1 rs1 dp1 h1 => ?_⟩
  subst dp1
  exact Fin.pure (d := !d) rs1 h1 rfl
end
/-- as values -/
def andV (f g : Env → M D) : Env → M D := fun env => bd (f env) fun d => bd (asB d) fun c => if c = true then g env else pur (.bl false)
def orV (f g : Env → M D) : Env → M D := fun env => bd (f env) fun d => bd (asB d) fun c => if c = true then pur (.bl true) else g env
def notV (f : Env → M D) : Env → M D := fun env => bd (f env) fun d => bd (asB d) fun c => pur (.bl (!c))
theorem fe_one {op} (h : FE X W a f) : FE X W (.BoolOp op [a] pos) f := ⟨pe_one h.run⟩
theorem fe_and {rest : List Expr} (ha : FE X W a f) (hb : FE X W (.BoolOp .And (b :: rest) pos) g) : FE X W (.BoolOp .And (a :: b :: rest) pos) (andV f g) := by
  refine ⟨PE.weak (pe_and ha.run hb.run) fun σ H Q ⟨F, ad, env, S, re, rs, h⟩ => ?_⟩
  refine ⟨F, ad, env, S, re, rs, Fin.seq re h fun F1 ad1 S1 d v H1 n1 re1 rs1 dp1 h1 => ?_⟩
  cases d <;> first
    | exact h1.elim
    | skip
  rename_i c
  refine ⟨c, dp1, ?_⟩
  cases c with
  | true => exact iteT ⟨F1, ad1, env, S1, re1, rs1, h1⟩
  | false => exact iteF (Fin.pure (d := D.bl false) rs1 h1 rfl)
theorem fe_or {rest : List Expr} (ha : FE X W a f) (hb : FE X W (.BoolOp .Or (b :: rest) pos) g) : FE X W (.BoolOp .Or (a :: b :: rest) pos) (orV f g) := by
  refine ⟨PE.weak (pe_or ha.run hb.run) fun σ H Q ⟨F, ad, env, S, re, rs, h⟩ => ?_⟩
  refine ⟨F, ad, env, S, re, rs, Fin.seq re h fun F1 ad1 S1 d v H1 n1 re1 rs1 dp1 h1 => ?_⟩
  cases d <;> first
    | exact h1.elim
    | skip
  rename_i c
  refine ⟨c, dp1, ?_⟩
  cases c with
  | true => exact iteT (Fin.pure (d := D.bl true) rs1 h1 rfl)
  | false => exact iteF ⟨F1, ad1, env, S1, re1, rs1, h1⟩
theorem fe_not (ha : FE X W a f) : FE X W (.UnaryOp .Not a pos) (notV f) := by
  refine ⟨PE.weak (pe_not ha.run) fun σ H Q ⟨F, ad, env, S, re, rs, h⟩ => ?_⟩
  refine ⟨F, ad, env, S, re, rs, Fin.seq re h fun F1 ad1 S1 d v H1 n1 re1 rs1 dp1 h1 => ?_⟩
  cases d <;> first
    | exact h1.elim
    | exact ⟨_, dp1, Fin.pure rs1 h1 rfl⟩
def iteV (p : Env → M Bool) (f g : Env → M D) : Env → M D := fun env => bd (p env) fun c => if c = true then f env else g env
theorem fe_ite {p : Env → M Bool} (hc : FT X W c p) (ha : FE X W a f) (hb : FE X W b g) : FE X W (.IfExp c a b pos) (iteV p f g) := by
  refine ⟨PE.weak (pe_ifExp hc.run ha.run hb.run) fun σ H Q ⟨F, ad, env, S, re, rs, h⟩ => ?_⟩
  refine ⟨F, ad, env, S, re, rs, Fin.seq re h fun F1 ad1 S1 d v H1 n1 re1 rs1 dp1 h1 => ?_⟩
  subst dp1
  cases d with
  | true => exact iteT ⟨F1, ad1, env, S1, re1, rs1, by simpa using h1⟩
  | false => exact iteF ⟨F1, ad1, env, S1, re1, rs1, by simpa using h1⟩
/-- a op b op' c -/
def chn (g g' : D → D → M D) (f1 f2 f3 : Env → M D) : Env → M D := fun env => bd (f1 env) fun x => bd (f2 env) fun y => bd (g x y) fun z => bd (asB z) fun k => if k = true then bd (f3 env) fun w => g' y w else pur (.bl false)
theorem chn_seq {g g' : D → D → M D} {r r' : R2} (hg : ∀ (W : WX) (σ : L2.St) F ad S H x y v w (Q : VK), RS X.K F ad S H → DP X.K F ad S.length x v → DP X.K F ad S.length y w → Fin X W (DP X.K) σ F ad S H (g x y S) Q → r v w H Q)
    (hg' : ∀ (W : WX) (σ : L2.St) F ad S H x y v w (Q : VK), RS X.K F ad S H → DP X.K F ad S.length x v → DP X.K F ad S.length y w → Fin X W (DP X.K) σ F ad S H (g' x y S) Q → r' v w H Q)
    {σ : L2.St} {H : Hp} {Q : VK} (h : tF X W (chn g g' f1 f2 f3) σ H Q) : tChain r r' (tF X W f1) (tF X W f2) (tF X W f3) σ H Q := by
  obtain ⟨F, ad, env, S, re, rs, h⟩ := h
  refine ⟨F, ad, env, S, re, rs, Fin.seq re h fun F1 ad1 S1 x v H1 n1 re1 rs1 dp1 h1 => ?_⟩
  refine ⟨F1, ad1, env, S1, re1, rs1, Fin.seq re1 h1 fun F2 ad2 S2 y w H2 n2 re2 rs2 dp2 h2 => ?_⟩
  refine hg W σ F2 ad2 S2 H2 x y v w _ rs2 (DP.mono n2.gr x v dp1) dp2 (Fin.seq re2 h2 fun F3 ad3 S3 z u H3 n3 re3 rs3 dp3 h3 => ?_)
  cases z <;> first
    | exact h3.elim
    | skip
  rename_i k
  refine ⟨k, dp3, ?_⟩
  cases k with
  | false => exact iteF (Fin.pure (d := D.bl false) rs3 h3 rfl)
  | true =>
    refine iteT ⟨F3, ad3, env, S3, re3, rs3, Fin.seq re3 h3 fun F4 ad4 S4 t t' H4 n4 re4 rs4 dp4 h4 => ?_⟩
    exact hg' W σ F4 ad4 S4 H4 y t w t' Q rs4 (DP.mono (n3.trans n4).gr y w dp2) dp4 h4
theorem fe_chain {op op' : CmpOp} {g g' : D → D → M D} (ho : OpF X (compareOp op) g) (ho' : OpF X (compareOp op') g') (ha : FE X W a f1) (hb : FE X W b f2) (hc : FE X W c f3) (hm : lastMarks [op, op'] [b, c] = false := by with_unfolding_all rfl) :
    FE X W (.Compare a [op, op'] [b, c] pos) (chn g g' f1 f2 f3) := by
  obtain ⟨r, hr, hg⟩ := ho
  obtain ⟨r', hr', hg'⟩ := ho'
  exact ⟨PE.weak (pe_chain hr hr' ha.run hb.run hc.run hm) fun σ H Q h => chn_seq hg hg' h⟩
theorem ft_chain {op op' : CmpOp} {g g' : D → D → M D} (ho : OpF X (compareOp op) g) (ho' : OpF X (compareOp op') g') (ha : FE X W a f1) (hb : FE X W b f2) (hc : FE X W c f3) (hm : lastMarks [op, op'] [b, c] = false := by with_unfolding_all rfl) :
    FT X W (.Compare a [op, op'] [b, c] pos) (tst (chn g g' f1 f2 f3)) := by
  obtain ⟨r, hr, hg⟩ := ho
  obtain ⟨r', hr', hg'⟩ := ho'
  refine ⟨PT.weak (pt_chain hr hr' ha.run hb.run hc.run hm) fun σ H Q h => ?_⟩
  refine chn_seq hg hg' ?_
  obtain ⟨F, ad, env, S, re, rs, h⟩ := h
  refine ⟨F, ad, env, S, re, rs, Fin.seq re h fun F1 ad1 S1 d v H1 n1 re1 rs1 dp1 h1 => ?_⟩
  cases d <;> first
    | exact h1.elim
    | exact ⟨_, dp1, Fin.pure rs1 h1 rfl⟩

/-! ### lists of expressions, displays -/
section
variable {es : List Expr} {t : Env → M (List D)}
theorem fa_nil : FA X W [] (fun _ => pur []) := ⟨PA.weak pa_nil fun σ H Q ⟨F, ad, env, S, re, rs, h⟩ => Fin.pure rs h rfl⟩
def cns (f : Env → M D) (t : Env → M (List D)) : Env → M (List D) := fun env => bd (f env) fun d => bd (t env) fun r => pur (d :: r)
theorem fa_cons (ha : FE X W e f) (hr : FA X W es t) (hs : starEach (e :: es) X.env = (false, eval e X.env) :: starEach es X.env := by rfl) : FA X W (e :: es) (cns f t) := by
  refine ⟨PA.weak (pa_cons ha.run hr.run hs) fun σ H Q ⟨F, ad, env, S, re, rs, h⟩ => ?_⟩
  refine ⟨F, ad, env, S, re, rs, Fin.seq re h fun F1 ad1 S1 d v H1 n1 re1 rs1 dp1 h1 => ?_⟩
  refine ⟨F1, ad1, env, S1, re1, rs1, Fin.seq re1 h1 fun F2 ad2 S2 ds vs H2 n2 re2 rs2 dp2 h2 => ?_⟩
  exact Fin.pure (v := v :: vs) rs2 h2 ⟨v, vs, rfl, DP.mono n2.gr d v dp1, dp2⟩
/-- a new plain list, a new tuple -/
def mkL (ds : List D) : M D := if ds.length ≤ sizeLine then pur (.lst ds) else mno
def mkT (ds : List D) : M D := if ds.length ≤ sizeLine then pur (.tup ds) else mno
/-- a new thing of the store -/
def mkO (od : OD) : M D := fun S => .ok (.obj S.length) (S ++ [some od])
def mkN (ds : List D) : M D := if ds.length ≤ sizeLine then mkO (.lst ds) else mno
theorem fin_mkL {σ : L2.St} {F : Hp} {ad : Nat → Addr} {S : Store} {H : Hp} {Q : VK} {ds : List D} {vs : List V} (rs : RS X.K F ad S H) (dp : DPs X.K F ad S.length ds vs) (h : Fin X W (DP X.K) σ F ad S H (mkL ds S) Q) :
    vs.length ≤ sizeLine ∧ ∀ p, H p = none → Q (.ref p) (upd H p (.lst vs)) := by
  unfold mkL at h
  split at h
  · rename_i hl
    refine ⟨by rw [← dp.length]; exact hl, fun p hp => ?_⟩
    exact h (.ref p) _ ad _ (Nx.alloc rs hp) (rs.alloc hp) ⟨p, vs, rfl, upd_same, DPs.mono (Gr.alloc (F_none rs hp)) ds vs dp⟩
  · exact h.elim
theorem fin_mkT {σ : L2.St} {F : Hp} {ad : Nat → Addr} {S : Store} {H : Hp} {Q : VK} {ds : List D} {vs : List V} (rs : RS X.K F ad S H) (dp : DPs X.K F ad S.length ds vs) (h : Fin X W (DP X.K) σ F ad S H (mkT ds S) Q) :
    vs.length ≤ sizeLine ∧ ∀ p o, H p = none → o.dict = none → Q (.ref p) (upd H p (.frz o (.tup vs))) := by
  unfold mkT at h
  split at h
  · rename_i hl
    refine ⟨by rw [← dp.length]; exact hl, fun p o hp ho => ?_⟩
    exact h (.ref p) _ ad _ (Nx.alloc rs hp) (rs.alloc hp) ⟨p, vs, rfl, .inl ⟨o, upd_same, ho⟩, DPs.mono (Gr.alloc (F_none rs hp)) ds vs dp⟩
  · exact h.elim
theorem fin_mkO {σ : L2.St} {F : Hp} {ad : Nat → Addr} {S : Store} {H : Hp} {Q : VK} {od : OD} {o : HO} (rs : RS X.K F ad S H) (ho : OR X.K F ad S.length od o) (h : Fin X W (DP X.K) σ F ad S H (mkO od S) Q) :
    ∀ p, H p = none → Q (.ref p) (upd H p o) := fun p hp =>
  h (.ref p) F _ _ (Nx.new rs hp) (rs.new hp (OR.mono Gr.new od o ho)) ⟨by simp, by rw [adn_same]⟩
theorem fin_mkN {σ : L2.St} {F : Hp} {ad : Nat → Addr} {S : Store} {H : Hp} {Q : VK} {ds : List D} {vs : List V} (rs : RS X.K F ad S H) (dp : DPs X.K F ad S.length ds vs) (h : Fin X W (DP X.K) σ F ad S H (mkN ds S) Q) :
    vs.length ≤ sizeLine ∧ ∀ p, H p = none → Q (.ref p) (upd H p (.lst vs)) := by
  unfold mkN at h
  split at h
  · rename_i hl
    exact ⟨by rw [← dp.length]; exact hl, fin_mkO (od := .lst ds) rs ⟨vs, rfl, dp⟩ h⟩
  · exact h.elim
def dsp (mk : List D → M D) (t : Env → M (List D)) : Env → M D := fun env => bd (t env) mk
/-- (a, b, ..): a tuple without a dict -/
def tTupC (t : TA) : TE := fun σ H Q => t σ H fun xs H1 => xs.length ≤ sizeLine ∧ ∀ (p : Addr) (o : Obj), H1 p = none → o.dict = none → Q (.ref p) (upd H1 p (.frz o (.tup xs)))
theorem pe_tupC {x1} {t : TA} (h : PA X es t) : PE X (.Tuple es x1 pos) (tTupC t) := by
  refine ⟨fun pins s σ H Q I hq => ?_⟩
  refine wpAny_Tuple_spliced (thn (h.run pos pins s σ H _ I hq) fun us s1 ⟨xs, H1, I1, r, z, q⟩ => ⟨by rw [← r.length]; exact z, ?_⟩)
  have hf : H1 s1.heap.objs.size = none := I1.hok.fresh (Nat.le_refl _)
  refine ⟨.ref s1.heap.objs.size, upd H1 s1.heap.objs.size (.frz _ (.tup xs)), I1.laid (t' := s1.toks) (fun b u e => Heap.get?_push_of_some _ e) (Nat.le_refl _) ⟨Heap.get?_push_size _ rfl, ?_⟩, rfl, q _ _ hf rfl⟩
  exact ⟨z, us, r, ⟨_, Heap.get?_push_size _ rfl, rfl, _, rfl⟩⟩
theorem fe_tup {x1} (h : FA X W es t) : FE X W (.Tuple es x1 pos) (dsp mkT t) :=
  ⟨PE.weak (pe_tupC h.run) fun σ H Q ⟨F, ad, env, S, re, rs, h⟩ => ⟨F, ad, env, S, re, rs, Fin.seq re h fun F1 ad1 S1 ds vs H1 n1 re1 rs1 dp1 h1 => fin_mkT rs1 dp1 h1⟩⟩
theorem fe_lst (h : FA X W es t) : FE X W (.List es pos) (dsp mkL t) :=
  ⟨PE.weak (pe_lst h.run) fun σ H Q ⟨F, ad, env, S, re, rs, h⟩ => ⟨F, ad, env, S, re, rs, Fin.seq re h fun F1 ad1 S1 ds vs H1 n1 re1 rs1 dp1 h1 => fin_mkL rs1 dp1 h1⟩⟩
theorem fe_new (h : FA X W es t) : FE X W (.List es pos) (dsp mkN t) :=
  ⟨PE.weak (pe_lst h.run) fun σ H Q ⟨F, ad, env, S, re, rs, h⟩ => ⟨F, ad, env, S, re, rs, Fin.seq re h fun F1 ad1 S1 ds vs H1 n1 re1 rs1 dp1 h1 => fin_mkN rs1 dp1 h1⟩⟩
end
end
end Fx

end
/-! ## Fx2 -/
section
namespace Fx
open PySem PySem.Spec PyProof.Rows L2
variable [tb : Tabl]

/-! ### lists, wherever they stand -/
def seqM : D → M (List D)
  | .lst xs => pur xs
  | .obj n => fun S => match S[n]? with
    | some (some (.lst xs)) => .ok xs S
    | _ => .no
  | _ => mno
def seqL : D → M (List D)
  | .scr ns => pur (ns.map D.int)
  | d => seqM d
def seqLT : D → M (List D)
  | .tup xs => pur xs
  | d => seqL d
section
variable {X : Cx} {F : Hp} {ad : Nat → Addr} {S : Store} {H : Hp}
theorem dps_ints {K : PySem.W.Frag} {L : Nat} : ∀ ns : List Int, DPs K F ad L (ns.map D.int) (ns.map V.int)
  | [] => rfl
  | n :: ns => ⟨.int n, ns.map V.int, rfl, rfl, dps_ints ns⟩
theorem seqM_at {d : D} {v : V} {xs : List D} {S' : Store} (rs : RS X.K F ad S H) (dp : DP X.K F ad S.length d v) (h : seqM d S = .ok xs S') :
    S' = S ∧ ∃ a vs, v = .ref a ∧ H a = some (.lst vs) ∧ DPs X.K F ad S.length xs vs := by
  cases d with
  | lst ds =>
    obtain ⟨a, vs, e, h1, h2⟩ := dp
    cases h
    exact ⟨rfl, a, vs, e, rs.sub _ _ h1, h2⟩
  | obj n =>
    obtain ⟨hn, e⟩ := dp
    simp only [seqM] at h
    split at h
    · rename_i ys q
      cases h
      obtain ⟨h1, o, h2, vs, h3, h4⟩ := rs.liv n _ q
      subst h3
      exact ⟨rfl, ad n, vs, e, h2, h4⟩
    · cases h
  | scr ns => cases h
  | err a dd ns ds => cases h
  | utp _ => cases h
  | non => cases h
  | bl _ => cases h
  | int _ => cases h
  | str _ => cases h
  | tup _ => cases h
theorem seqL_at {d : D} {v : V} {xs : List D} {S' : Store} (rs : RS X.K F ad S H) (dp : DP X.K F ad S.length d v) (h : seqL d S = .ok xs S') :
    S' = S ∧ ∃ a vs, v = .ref a ∧ SqL X.K H a vs ∧ DPs X.K F ad S.length xs vs := by
  cases d with
  | scr ns =>
    obtain ⟨a, e1, e2⟩ := dp
    cases h
    exact ⟨rfl, a, _, e1, sqL_mono rs.sub e2, dps_ints ns⟩
  | _ =>
    simp only [seqL] at h
    obtain ⟨e, a, vs, e1, e2, e3⟩ := seqM_at rs dp h
    exact ⟨e, a, vs, e1, SqL.of e2, e3⟩
theorem seqLT_at {d : D} {v : V} {xs : List D} {S' : Store} (rs : RS X.K F ad S H) (dp : DP X.K F ad S.length d v) (h : seqLT d S = .ok xs S') :
    S' = S ∧ ∃ a vs, v = .ref a ∧ (SqL X.K H a vs ∨ SqT X.K H a vs) ∧ DPs X.K F ad S.length xs vs := by
  cases d with
  | tup ds =>
    obtain ⟨a, vs, e, h1, h2⟩ := dp
    cases h
    exact ⟨rfl, a, vs, e, .inr (sqT_mono rs.sub h1.sq), h2⟩
  | _ =>
    simp only [seqLT] at h
    obtain ⟨e, a, vs, e1, e2, e3⟩ := seqL_at rs dp h
    exact ⟨e, a, vs, e1, .inl e2, e3⟩
theorem seqM_ex {d : D} {e : Ex} {S' : Store} (h : seqM d S = .ex e S') : False := by
  cases d <;> simp [seqM, pur, mno] at h
  split at h <;> cases h
theorem seqL_ex {d : D} {e : Ex} {S' : Store} (h : seqL d S = .ex e S') : False := by
  cases d with
  | scr ns => cases h
  | _ => (simp only [seqL] at h; exact seqM_ex h)
theorem seqLT_ex {d : D} {e : Ex} {S' : Store} (h : seqLT d S = .ex e S') : False := by
  cases d with
  | tup ns => cases h
  | _ => (simp only [seqLT] at h; exact seqL_ex h)
theorem opt_ok {α : Type} {o : Option α} {a : α} {S S' : Store} (h : opt o S = .ok a S') : S' = S ∧ o = some a := by
  cases o with
  | none => cases h
  | some b => cases h; exact ⟨rfl, rfl⟩
theorem opt_ex {α : Type} {o : Option α} {e : Ex} {S S' : Store} (h : opt o S = .ex e S') : False := by cases o <;> cases h
/-- a pure look, then the rest -/
theorem Fin.look {α β γ : Type} {W : WX} {RR : Hp → (Nat → Addr) → Nat → α → β → Prop} {σ : L2.St} {m : M γ} {k : γ → M α} {Q : β → Hp → Prop} (h : Fin X W RR σ F ad S H (bd m k S) Q) (hx : ∀ e S', m S = .ex e S' → False) :
    ∃ c S1, m S = .ok c S1 ∧ Fin X W RR σ F ad S H (k c S1) Q := by
  simp only [bd] at h
  cases e : m S with
  | ok c S1 => rw [e] at h; exact ⟨c, S1, rfl, h⟩
  | ex x S1 => exact (hx x S1 e).elim
  | no => rw [e] at h; exact h.elim
end

/-! ### operators -/
def b2 (b : Bool) : Int := if b = true then 1 else 0
def catL (mk : List D → M D) (x y : D) : M D := bd (seqM x) fun xs => bd (seqM y) fun ys => mk (xs ++ ys)
def addD (mk : List D → M D) : D → D → M D
  | .int i, .int j => pur (.int (i + j))
  | .bl p, .int j => pur (.int (b2 p + j))
  | .int i, .bl p => pur (.int (i + b2 p))
  | .str x, .str y => if x.length + y.length ≤ sizeLine then pur (.str (x ++ y)) else mno
  | .tup xs, .tup ys => if xs.length + ys.length ≤ sizeLine then pur (.tup (xs ++ ys)) else mno
  | .lst xs, y => catL mk (.lst xs) y
  | .obj n, y => catL mk (.obj n) y
  | _, _ => mno
def subD : D → D → M D
  | .int i, .int j => pur (.int (i - j))
  | .bl p, .int j => pur (.int (b2 p - j))
  | .int i, .bl p => pur (.int (i - b2 p))
  | _, _ => mno
def negD : D → M D
  | .int i => pur (.int (-i))
  | _ => mno
def modD : D → D → M D
  | .int i, .int j => if j ≠ 0 then pur (.int (i.fmod j)) else mno
  | _, _ => mno
def fdivD : D → D → M D
  | .int i, .int j => if j ≠ 0 ∧ j.natAbs < 1073741824 then pur (.int (i.fdiv j)) else mno
  | _, _ => mno
def powD : D → D → M D
  | .int i, .int j => if 0 ≤ j ∧ j ≤ 1000000 ∧ i.natAbs < 2 ^ 64 then pur (.int (i ^ j.toNat)) else mno
  | _, _ => mno
def repL (ds : List D) (k : Int) : M D := if -(2 ^ 63) ≤ k ∧ k < 2 ^ 63 ∧ ds.length * k.toNat ≤ sizeLine then pur (.lst (List.replicate k.toNat ds).flatten) else mno
def mulD : D → D → M D
  | .int i, .int j => if (-(2 ^ 64) < i ∧ i < 2 ^ 64) ∨ (-(2 ^ 64) < j ∧ j < 2 ^ 64) then pur (.int (i * j)) else mno
  | .lst ds, .int k => repL ds k
  | .str x, .int n => if x.length ≤ 16 ∧ -(2 ^ 63) ≤ n ∧ n ≤ 1048576 then pur (.str (Txt.mul x n)) else mno
  | _, _ => mno
def ltD : D → D → M D
  | .int i, .int j => pur (.bl (decide (i < j)))
  | .str x, .str y => pur (.bl (decide (x.cps.toList < y.cps.toList)))
  | _, _ => mno
def leD : D → D → M D
  | .int i, .int j => pur (.bl (decide (i ≤ j)))
  | .str x, .str y => pur (.bl (!decide (y.cps.toList < x.cps.toList)))
  | _, _ => mno
def gtD : D → D → M D
  | .int i, .int j => pur (.bl (decide (j < i)))
  | .str x, .str y => pur (.bl (decide (y.cps.toList < x.cps.toList)))
  | _, _ => mno
def geD : D → D → M D
  | .int i, .int j => pur (.bl (decide (j ≤ i)))
  | .str x, .str y => pur (.bl (!decide (x.cps.toList < y.cps.toList)))
  | _, _ => mno

section
variable {X : Cx}
theorem op_add_bi : OpR X (binaryOp .Add) (fun x y H Q => ∃ k i, x = .bl k ∧ y = .int i ∧ Q (.int (b2 k + i)) H) := by
  intro pins s σ H x y v u Q I rx ry h
  obtain ⟨k, i, rfl, rfl, q⟩ := h
  cases rx
  obtain ⟨t, rfl⟩ := ry
  exact PySem.IntBool.add_bool_int ⟨.int (b2 k + i), H, I.tok _, ⟨_, rfl⟩, q⟩
theorem op_sub_bi : OpR X (binaryOp .Sub) (fun x y H Q => ∃ k i, x = .bl k ∧ y = .int i ∧ Q (.int (b2 k - i)) H) := by
  intro pins s σ H x y v u Q I rx ry h
  obtain ⟨k, i, rfl, rfl, q⟩ := h
  cases rx
  obtain ⟨t, rfl⟩ := ry
  exact PySem.IntBool.sub_bool_int ⟨.int (b2 k - i), H, I.tok _, ⟨_, rfl⟩, q⟩
theorem op_sub_ib : OpR X (binaryOp .Sub) (fun x y H Q => ∃ i k, x = .int i ∧ y = .bl k ∧ Q (.int (i - b2 k)) H) := by
  intro pins s σ H x y v u Q I rx ry h
  obtain ⟨i, k, rfl, rfl, q⟩ := h
  obtain ⟨t, rfl⟩ := rx
  cases ry
  exact PySem.IntBool.sub_int_bool ⟨.int (i - b2 k), H, I.tok _, ⟨_, rfl⟩, q⟩
theorem of_sub : OpF X (binaryOp .Sub) subD := by
  refine ⟨_, op_sub.or (op_sub_bi.or op_sub_ib), fun W σ F ad S H x y v w Q rs dx dy h => ?_⟩
  cases x <;> cases y <;> first
    | exact h.elim
    | skip
  · exact .inr (.inl ⟨_, _, dx, dy, Fin.pure rs h rfl⟩)
  · exact .inr (.inr ⟨_, _, dx, dy, Fin.pure rs h rfl⟩)
  · exact .inl ⟨_, _, dx, dy, Fin.pure rs h rfl⟩
/-- a maker of lists, plain or of the store -/
def MkOk (X : Cx) (mk : List D → M D) : Prop := ∀ (W : WX) (σ : L2.St) F ad S H (Q : VK) (ds : List D) (vs : List V), RS X.K F ad S H → DPs X.K F ad S.length ds vs → Fin X W (DP X.K) σ F ad S H (mk ds S) Q →
  vs.length ≤ sizeLine ∧ ∀ p, H p = none → Q (.ref p) (upd H p (.lst vs))
theorem mk_L : MkOk X mkL := fun _ _ _ _ _ _ _ _ _ rs dp h => fin_mkL rs dp h
theorem mk_N : MkOk X mkN := fun _ _ _ _ _ _ _ _ _ rs dp h => fin_mkN rs dp h
theorem catL_ok {mk : List D → M D} (hm : MkOk X mk) {W : WX} {σ : L2.St} {F ad S H} {x y : D} {v w : V} {Q : VK} (rs : RS X.K F ad S H) (dx : DP X.K F ad S.length x v) (dy : DP X.K F ad S.length y w)
    (h : Fin X W (DP X.K) σ F ad S H (catL mk x y S) Q) : rCat v w H Q := by
  obtain ⟨xs, S1, e1, h⟩ := Fin.look h fun _ _ => seqM_ex
  obtain ⟨rfl, a, vs, rfl, ha, da⟩ := seqM_at rs dx e1
  obtain ⟨ys, S2, e2, h⟩ := Fin.look h fun _ _ => seqM_ex
  obtain ⟨rfl, b, us, rfl, hb, db⟩ := seqM_at rs dy e2
  obtain ⟨hl, k⟩ := hm W σ F ad _ H Q _ _ rs (da.append db) h
  exact ⟨a, b, vs, us, rfl, rfl, ha, hb, by rw [List.length_append] at hl; exact hl, k⟩
/-- t + u: a tuple without a dict -/
def rCatC (K : PySem.W.Frag) : R2 := fun x y H Q => ∃ a b xs ys, x = .ref a ∧ y = .ref b ∧ SqT K H a xs ∧ SqT K H b ys ∧ xs.length + ys.length ≤ sizeLine ∧
  (xs = [] → Q (.ref b) H) ∧ (xs ≠ [] → ys = [] → Q (.ref a) H) ∧ (xs ≠ [] → ys ≠ [] → ∀ (p : Addr) (o : Obj), H p = none → o.dict = none → Q (.ref p) (upd H p (.frz o (.tup (xs ++ ys)))))
theorem op_catC : OpR X (binaryOp .Add) (rCatC X.K) := by
  intro pins s σ H x y v u Q I rx ry h
  obtain ⟨a, b, xs, ys, rfl, rfl, ha, hb, hz, q0, q1, q2⟩ := h
  by_cases hx : xs = []
  · exact op_catA pins s σ H _ _ v u Q I rx ry ⟨a, b, xs, ys, rfl, rfl, ha, hb, hz, q0, fun z => absurd hx z, fun z => absurd hx z⟩
  · cases rx
    cases ry
    obtain ⟨its, r1, p1, _⟩ := I.tuple ha
    obtain ⟨its2, r2, p2, _⟩ := I.tuple hb
    refine HT.cat_tup p1 p2 (fun z => hx (r1.nil_iff.mp z)) (fun z => ⟨.ref a, H, I, rfl, q1 hx (r2.nil_iff.mp z)⟩) (fun z => ?_) (by rw [← r1.length, ← r2.length]; exact hz)
    refine ⟨.ref s.heap.objs.size, _, I.laid (t' := s.toks) (o := .frz _ (.tup (xs ++ ys))) (fun b ob q => Heap.get?_push_of_some _ q) (Nat.le_refl _) ⟨Heap.get?_push_size _ rfl, ?_⟩, rfl, q2 hx (fun w => z (r2.nil_iff.mpr w)) _ _ (I.hok.fresh (Nat.le_refl _)) rfl⟩
    exact ⟨by rw [List.length_append]; exact hz, _, r1.append r2, IsTup.new _ _⟩
theorem of_add {mk : List D → M D} (hm : MkOk X mk) : OpF X (binaryOp .Add) (addD mk) := by
  refine ⟨_, op_add.or (op_add_bi.or (op_add_ib.or (op_add_str.or (op_catC.or op_cat)))), fun W σ F ad S H x y v w Q rs dx dy h => ?_⟩
  cases x with
  | int i =>
    cases y <;> first
      | exact h.elim
      | skip
    · exact .inr (.inr (.inl ⟨_, _, dx, dy, Fin.pure rs h rfl⟩))
    · exact .inl ⟨_, _, dx, dy, Fin.pure rs h rfl⟩
  | bl p =>
    cases y <;> first
      | exact h.elim
      | skip
    exact .inr (.inl ⟨_, _, dx, dy, Fin.pure rs h rfl⟩)
  | str z =>
    cases y <;> first
      | exact h.elim
      | skip
    rename_i z2
    have h : Fin X W (DP X.K) σ F ad S H ((if z.length + z2.length ≤ sizeLine then pur (.str (z ++ z2)) else mno : M D) S) Q := h
    split at h
    · rename_i hl
      exact .inr (.inr (.inr (.inl ⟨_, _, dx, dy, hl, Fin.pure rs h rfl⟩)))
    · exact h.elim
  | tup xs =>
    cases y <;> first
      | exact h.elim
      | skip
    rename_i ys
    have h : Fin X W (DP X.K) σ F ad S H ((if xs.length + ys.length ≤ sizeLine then pur (.tup (xs ++ ys)) else mno : M D) S) Q := h
    split at h
    · rename_i hl
      obtain ⟨a, vs, rfl, ha, da⟩ := dx
      obtain ⟨b, us, rfl, hb, db⟩ := dy
      refine .inr (.inr (.inr (.inr (.inl ⟨a, b, vs, us, rfl, rfl, sqT_mono rs.sub ha.sq, sqT_mono rs.sub hb.sq, by rw [← da.length, ← db.length]; exact hl, fun e => ?_, fun _ e => ?_, fun _ _ p o hp ho => ?_⟩))))
      · subst e
        cases (List.length_eq_zero_iff.mp da.length)
        exact Fin.pure rs h ⟨b, us, rfl, hb, db⟩
      · subst e
        cases (List.length_eq_zero_iff.mp db.length)
        exact Fin.pure rs h ⟨a, vs, rfl, ha, by simpa using da⟩
      · exact h (.ref p) _ ad _ (Nx.alloc rs hp) (rs.alloc hp) ⟨p, _, rfl, .inl ⟨o, upd_same, ho⟩, DPs.mono (Gr.alloc (F_none rs hp)) _ _ (da.append db)⟩
    · exact h.elim
  | lst xs =>
    exact .inr (.inr (.inr (.inr (.inr (catL_ok hm rs dx dy h)))))
  | obj n =>
    exact .inr (.inr (.inr (.inr (.inr (catL_ok hm rs dx dy h)))))
  | non => exact h.elim
  | scr _ => exact h.elim
  | err a dd ns ds => exact h.elim
  | utp _ => exact h.elim

/-- if the condition holds -/
theorem Fin.ift {α β : Type} {W : WX} {RR : Hp → (Nat → Addr) → Nat → α → β → Prop} {σ : L2.St} {c : Prop} [Decidable c] {m : M α} {F ad S H} {Q : β → Hp → Prop} (h : Fin X W RR σ F ad S H ((if c then m else mno : M α) S) Q) :
    c ∧ Fin X W RR σ F ad S H (m S) Q := by
  split at h
  · exact ⟨by assumption, h⟩
  · exact h.elim
theorem of_mod : OpF X (binaryOp .Mod) modD := by
  refine ⟨_, op_modN, fun W σ F ad S H x y v w Q rs dx dy h => ?_⟩
  cases x <;> cases y <;> first
    | exact h.elim
    | skip
  obtain ⟨c, h⟩ := Fin.ift h
  exact ⟨_, _, dx, dy, c, Fin.pure rs h rfl⟩
theorem of_fdiv : OpF X (binaryOp .FloorDiv) fdivD := by
  refine ⟨_, op_fdivN, fun W σ F ad S H x y v w Q rs dx dy h => ?_⟩
  cases x <;> cases y <;> first
    | exact h.elim
    | skip
  obtain ⟨c, h⟩ := Fin.ift h
  exact ⟨_, _, dx, dy, c, Fin.pure rs h rfl⟩
theorem of_pow : OpF X (binaryOp .Pow) powD := by
  refine ⟨_, op_pow, fun W σ F ad S H x y v w Q rs dx dy h => ?_⟩
  cases x <;> cases y <;> first
    | exact h.elim
    | skip
  obtain ⟨c, h⟩ := Fin.ift h
  exact ⟨_, _, dx, dy, c, Fin.pure rs h rfl⟩
theorem op_mul_str : OpR X (binaryOp .Mult) (fun x y H Q => ∃ z n, x = .str z ∧ y = .int n ∧ (z.length ≤ 16 ∧ -(2 ^ 63) ≤ n ∧ n ≤ 1048576) ∧ Q (.str (Txt.mul z n)) H) := by
  intro pins s σ H x y v u Q I rx ry h
  obtain ⟨z, n, rfl, rfl, ⟨h1, h2, h3⟩, q⟩ := h
  obtain ⟨t, rfl⟩ := rx
  obtain ⟨t', rfl⟩ := ry
  exact PySem.W.KXi.mul rfl h1 h2 h3 fun t' k _ _ => ⟨.str (Txt.mul z n), H, I.tok _, ⟨_, rfl⟩, q⟩
theorem of_mul : OpF X (binaryOp .Mult) mulD := by
  refine ⟨_, op_mul.or (op_mul_str.or op_rep), fun W σ F ad S H x y v w Q rs dx dy h => ?_⟩
  cases x <;> cases y <;> first
    | exact h.elim
    | skip
  · obtain ⟨c, h⟩ := Fin.ift h
    exact .inl ⟨_, _, dx, dy, c, Fin.pure rs h rfl⟩
  · obtain ⟨c, h⟩ := Fin.ift h
    exact .inr (.inl ⟨_, _, dx, dy, c, Fin.pure rs h rfl⟩)
  · obtain ⟨c, h⟩ := Fin.ift h
    obtain ⟨a, vs, rfl, ha, da⟩ := dx
    rename_i ds k _
    refine .inr (.inr ⟨a, k, vs, rfl, dy, rs.sub _ _ ha, c.1, c.2.1, by rw [← da.length]; exact c.2.2, fun p hp => ?_⟩)
    refine h (.ref p) _ ad _ (Nx.alloc rs hp) (rs.alloc hp) ⟨p, _, rfl, upd_same, DPs.mono (Gr.alloc (F_none rs hp)) _ _ ?_⟩
    have rep : ∀ n : Nat, DPs X.K F ad S.length (List.replicate n ds).flatten (List.replicate n vs).flatten := fun n => by
      induction n with
      | zero => exact rfl
      | succ n ih => rw [List.replicate_succ, List.replicate_succ, List.flatten_cons, List.flatten_cons]; exact da.append ih
    exact rep _
theorem of_lt : OpF X (compareOp .Lt) ltD := by
  refine ⟨_, op_lt.or op_lt_str, fun W σ F ad S H x y v w Q rs dx dy h => ?_⟩
  cases x <;> cases y <;> first
    | exact h.elim
    | exact .inl ⟨_, _, dx, dy, Fin.pure rs h rfl⟩
    | exact .inr ⟨_, _, dx, dy, Fin.pure rs h rfl⟩
theorem of_le : OpF X (compareOp .LtE) leD := by
  refine ⟨_, op_le.or op_le_str, fun W σ F ad S H x y v w Q rs dx dy h => ?_⟩
  cases x <;> cases y <;> first
    | exact h.elim
    | exact .inl ⟨_, _, dx, dy, Fin.pure rs h rfl⟩
    | exact .inr ⟨_, _, dx, dy, Fin.pure rs h rfl⟩
theorem of_gt : OpF X (compareOp .Gt) gtD := by
  refine ⟨_, op_gt.or op_gt_str, fun W σ F ad S H x y v w Q rs dx dy h => ?_⟩
  cases x <;> cases y <;> first
    | exact h.elim
    | exact .inl ⟨_, _, dx, dy, Fin.pure rs h rfl⟩
    | exact .inr ⟨_, _, dx, dy, Fin.pure rs h rfl⟩
theorem of_ge : OpF X (compareOp .GtE) geD := by
  refine ⟨_, op_ge.or op_ge_str, fun W σ F ad S H x y v w Q rs dx dy h => ?_⟩
  cases x <;> cases y <;> first
    | exact h.elim
    | exact .inl ⟨_, _, dx, dy, Fin.pure rs h rfl⟩
    | exact .inr ⟨_, _, dx, dy, Fin.pure rs h rfl⟩
def UnF (X : Cx) (f : Value → Sem Value) (g : D → M D) : Prop :=
  ∃ r, UnR X f r ∧ ∀ (W : WX) (σ : L2.St) F ad S H x v (Q : VK), RS X.K F ad S H → DP X.K F ad S.length x v → Fin X W (DP X.K) σ F ad S H (g x S) Q → r v H Q
def un (g : D → M D) (f : Env → M D) : Env → M D := fun env => bd (f env) g
theorem fe_un {W : WX} {op : UnaryOp} {a : Expr} {pos : Pos} {f : Env → M D} {g : D → M D} (ho : UnF X (unaryOp op) g) (ha : FE X W a f) : FE X W (.UnaryOp op a pos) (un g f) := by
  obtain ⟨r, hr, hg⟩ := ho
  exact ⟨PE.weak (pe_un hr ha.run) fun σ H Q ⟨F, ad, env, S, re, rs, h⟩ => ⟨F, ad, env, S, re, rs, Fin.seq re h fun F1 ad1 S1 d v H1 n1 re1 rs1 dp1 h1 => hg W σ F1 ad1 S1 H1 d v Q rs1 dp1 h1⟩⟩
theorem of_neg : UnF X (unaryOp .USub) negD := by
  refine ⟨_, un_neg, fun W σ F ad S H x v Q rs dx h => ?_⟩
  cases x <;> first
    | exact h.elim
    | exact ⟨_, dx, Fin.pure rs h rfl⟩
end

/-! ### data as the library has it -/
mutual
def pyD : D → Option PyData
  | .non => some .none
  | .bl b => some (.bool b)
  | .int i => some (.int i)
  | .str x => some (.str x)
  | .lst xs => match pyDs xs with
    | some ys => some (.list ys)
    | none => none
  | .tup xs => match pyDs xs with
    | some ys => some (.tuple ys)
    | none => none
  | .obj _ => none
  | .scr _ => none
  | .err .. => none
  | .utp _ => none
def pyDs : List D → Option (List PyData)
  | [] => some []
  | d :: ds => match pyD d, pyDs ds with
    | some x, some xs => some (x :: xs)
    | _, _ => none
end
section
variable {X : Cx} {F : Hp} {ad : Nat → Addr} {S : Store} {H : Hp} {L : Nat}
mutual
theorem dp_of (sub : ∀ a o, F a = some o → H a = some o) : ∀ (d : D) (v : V) (p : PyData), DP X.K F ad L d v → pyD d = some p → Dp X.K H v p
  | .non, _, _, h, e => by cases h; cases e; exact .non
  | .bl b, _, _, h, e => by cases h; cases e; exact .bl b
  | .int b, _, _, h, e => by cases h; cases e; exact .int b
  | .str b, _, _, h, e => by cases h; cases e; exact .str b
  | .lst ds, _, _, ⟨a, vs, e1, e2, e3⟩, e => by
    simp only [pyD] at e
    split at e
    · rename_i ys q
      cases e
      subst e1
      exact .lst (SqL.of (sub _ _ e2)) (dps_of sub ds vs ys e3 q)
    · cases e
  | .tup ds, _, _, ⟨a, vs, e1, e2, e3⟩, e => by
    simp only [pyD] at e
    split at e
    · rename_i ys q
      cases e
      subst e1
      exact .tup (sqT_mono sub e2.sq) (dps_of sub ds vs ys e3 q)
    · cases e
  | .obj _, _, _, _, e => by cases e
  | .scr _, _, _, _, e => by cases e
  | .err .., _, _, _, e => by cases e
  | .utp _, _, _, _, e => by cases e
theorem dps_of (sub : ∀ a o, F a = some o → H a = some o) : ∀ (ds : List D) (vs : List V) (ps : List PyData), DPs X.K F ad L ds vs → pyDs ds = some ps → DpAll X.K H vs ps
  | [], _, _, h, e => by cases h; cases e; exact .nil
  | d :: ds, _, _, ⟨v, r, e1, h1, h2⟩, e => by
    simp only [pyDs] at e
    split at e
    · rename_i x xs q1 q2
      cases e
      subst e1
      exact .cons (dp_of sub d v x h1 q1) (dps_of sub ds r xs h2 q2)
    · cases e
end
/-- the data that a value is, a list of the store as it stands -/
def pyM (d : D) : M PyData := match d with
  | .obj n => fun S => match S[n]? with
    | some (some (.lst xs)) => match pyDs xs with
      | some ys => .ok (.list ys) S
      | none => .no
    | _ => .no
  | d => opt (pyD d)
theorem pyM_ex {d : D} {e : Ex} {S' : Store} (h : pyM d S = .ex e S') : False := by
  cases d with
  | obj n =>
    simp only [pyM] at h
    split at h
    · split at h <;> cases h
    · cases h
  | _ => (simp only [pyM] at h; exact opt_ex h)
theorem pyM_at {d : D} {v : V} {p : PyData} {S' : Store} (rs : RS X.K F ad S H) (dp : DP X.K F ad S.length d v) (h : pyM d S = .ok p S') : S' = S ∧ Dp X.K H v p := by
  cases d with
  | obj n =>
    obtain ⟨hn, e⟩ := dp
    simp only [pyM] at h
    split at h
    · rename_i xs q
      split at h
      · rename_i ys q2
        cases h
        obtain ⟨h1, o, h2, vs, h3, h4⟩ := rs.liv n _ q
        subst h3 e
        exact ⟨rfl, .lst (SqL.of h2) (dps_of rs.sub xs vs ys h4 q2)⟩
      · cases h
    · cases h
  | _ =>
    simp only [pyM] at h
    obtain ⟨e, q⟩ := opt_ok h
    exact ⟨e, dp_of rs.sub _ v p dp q⟩
end
def eqD (x y : D) : M D := bd (pyM x) fun p => bd (pyM y) fun q => if SeqAt.shaped p = true ∧ SeqAt.shaped q = true then pur (.bl (PyData.eqv p q)) else mno
def neD (x y : D) : M D := bd (pyM x) fun p => bd (pyM y) fun q => if SeqAt.shaped p = true ∧ SeqAt.shaped q = true then pur (.bl (!PyData.eqv p q)) else mno
section
variable {X : Cx}
theorem of_eq (hu : X.A.units + 64 < cLine) : OpF X (compareOp .Eq) eqD := by
  refine ⟨_, op_eqD hu, fun W σ F ad S H x y v w Q rs dx dy h => ?_⟩
  obtain ⟨p, S1, e1, h⟩ := Fin.look h fun _ _ => pyM_ex
  obtain ⟨rfl, d1⟩ := pyM_at rs dx e1
  obtain ⟨q, S1, e2, h⟩ := Fin.look h fun _ _ => pyM_ex
  obtain ⟨rfl, d2⟩ := pyM_at rs dy e2
  obtain ⟨c, h⟩ := Fin.ift h
  exact ⟨p, q, d1, d2, c.1, c.2, Fin.pure rs h rfl⟩
theorem of_ne (hu : X.A.units + 64 < cLine) : OpF X (compareOp .NotEq) neD := by
  refine ⟨_, op_neD hu, fun W σ F ad S H x y v w Q rs dx dy h => ?_⟩
  obtain ⟨p, S1, e1, h⟩ := Fin.look h fun _ _ => pyM_ex
  obtain ⟨rfl, d1⟩ := pyM_at rs dx e1
  obtain ⟨q, S1, e2, h⟩ := Fin.look h fun _ _ => pyM_ex
  obtain ⟨rfl, d2⟩ := pyM_at rs dy e2
  obtain ⟨c, h⟩ := Fin.ift h
  exact ⟨p, q, d1, d2, c.1, c.2, Fin.pure rs h rfl⟩
/-- x is None -/
def isNon : D → Bool
  | .non => true
  | _ => false
theorem isNon_V {K F ad L} {d : D} {v : V} (h : DP K F ad L d v) : decide (v = .non) = isNon d := by
  cases d <;> first
    | (cases h; rfl)
    | (obtain ⟨a, vs, rfl, _⟩ := h; rfl)
    | (obtain ⟨rfl, _⟩ := h; rfl)
    | (obtain ⟨_, rfl⟩ := h; rfl)
    | (obtain ⟨a, rfl, _⟩ := h; rfl)
def isD : D → D → M D := fun x y => if isNon y = true then pur (.bl (isNon x)) else mno
def isntD : D → D → M D := fun x y => if isNon y = true then pur (.bl (!isNon x)) else mno
theorem of_is : OpF X (compareOp .Is) isD := by
  refine ⟨_, op_isN, fun W σ F ad S H x y v w Q rs dx dy h => ?_⟩
  obtain ⟨c, h⟩ := Fin.ift h
  have e := isNon_V dy
  rw [c] at e
  exact ⟨of_decide_eq_true e, Fin.pure rs h (by rw [isNon_V dx]; rfl)⟩
theorem of_isnt : OpF X (compareOp .IsNot) isntD := by
  refine ⟨_, op_notN, fun W σ F ad S H x y v w Q rs dx dy h => ?_⟩
  obtain ⟨c, h⟩ := Fin.ift h
  have e := isNon_V dy
  rw [c] at e
  exact ⟨of_decide_eq_true e, Fin.pure rs h (by rw [isNon_V dx]; rfl)⟩
/-! ### in -/
def strOf : D → Option Str
  | .str x => some x
  | _ => none
def strsOf : List D → Option (List Str)
  | [] => some []
  | d :: ds => match strOf d, strsOf ds with
    | some x, some xs => some (x :: xs)
    | _, _ => none
theorem strsOf_at {K F ad L} : ∀ {ds : List D} {vs : List V} {xs : List Str}, DPs K F ad L ds vs → strsOf ds = some xs → vs = xs.map V.str
  | [], _, _, h, e => by cases h; cases e; rfl
  | d :: ds, _, _, ⟨v, r, e1, h1, h2⟩, e => by
    simp only [strsOf] at e
    split at e
    · rename_i x xs q1 q2
      cases e
      cases d <;> first
        | (cases q1; done)
        | skip
      cases q1
      cases h1
      rw [e1, strsOf_at h2 q2]
      rfl
    · cases e
def signOf (x : Str) : Option Nat := match x.cps.toList with
  | [c] => some c
  | _ => none
theorem signOf_eq {x : Str} {c : Nat} (h : signOf x = some c) : x = ⟨#[c]⟩ := by
  unfold signOf at h
  split at h
  · rename_i c' q
    cases h
    obtain ⟨⟨l⟩⟩ := x
    simp at q
    rw [q]
  · cases h
/-- x in y: one sign in a text, a text among texts -/
def inD (neg : Bool) : D → D → M D
  | .str x, .str z => bd (opt (signOf x)) fun c => pur (.bl (if neg = true then !decide (c ∈ z.cps.toList) else decide (c ∈ z.cps.toList)))
  | .str x, y => bd (seqLT y) fun ds => bd (opt (strsOf ds)) fun xs => pur (.bl (if neg = true then !decide (x ∈ xs) else decide (x ∈ xs)))
  | _, _ => mno
theorem inV_strs (x : Str) (xs : List Str) : inV (.str x) (xs.map V.str) = decide (x ∈ xs) := by
  unfold inV
  induction xs with
  | nil => rfl
  | cons y ys ih =>
    rw [List.map_cons, List.any_cons, ih]
    have : eqV (.str y) (.str x) = decide (y = x) := by
      by_cases e : y = x
      · subst e; simp [eqV]
      · simp [eqV, e]
    rw [this]
    by_cases e : y = x
    · subst e; simp
    · have e' : ¬ x = y := fun q => e q.symm
      simp [e, e']
theorem flat_strs (xs : List Str) : (xs.map V.str).all flatV = true := by
  rw [List.all_eq_true]
  intro v hv
  obtain ⟨x, _, rfl⟩ := List.mem_map.mp hv
  rfl
theorem in_core {neg : Bool} {W : WX} {σ : L2.St} {F ad S H} {x : Str} {y : D} {v w : V} {Q : VK} (rs : RS X.K F ad S H) (dx : DP X.K F ad S.length (.str x) v) (dy : DP X.K F ad S.length y w)
    (h : Fin X W (DP X.K) σ F ad S H ((bd (seqLT y) fun ds => bd (opt (strsOf ds)) fun xs => pur (.bl (if neg = true then !decide (x ∈ xs) else decide (x ∈ xs)))) S) Q) : rIn X.K neg v w H Q := by
  obtain ⟨ds, S1, e1, h⟩ := Fin.look h fun _ _ => seqLT_ex
  obtain ⟨rfl, a, vs, rfl, q, da⟩ := seqLT_at rs dy e1
  obtain ⟨xs, S2, e2, h⟩ := Fin.look h fun _ _ => opt_ex
  obtain ⟨rfl, e3⟩ := opt_ok e2
  have ev := strsOf_at da e3
  subst ev
  cases dx
  refine ⟨a, _, rfl, q, rfl, flat_strs xs, ?_⟩
  rw [inV_strs]
  exact Fin.pure rs h rfl
theorem of_in : OpF X (compareOp .In) (inD false) := by
  refine ⟨_, op_in_sign.or op_in_seq, fun W σ F ad S H x y v w Q rs dx dy h => ?_⟩
  cases x with
  | str x =>
    cases y with
    | str z =>
      obtain ⟨c, S1, e, h⟩ := Fin.look h fun _ _ => opt_ex
      obtain ⟨rfl, e3⟩ := opt_ok e
      cases dx; cases dy
      exact .inl ⟨c, z, by rw [signOf_eq e3], rfl, Fin.pure rs h rfl⟩
    | _ => (simp only [inD] at h; exact .inr (in_core (neg := false) rs dx dy h))
  | _ => exact h.elim
theorem of_notin : OpF X (compareOp .NotIn) (inD true) := by
  refine ⟨_, op_notIn_sign.or op_notIn_seq, fun W σ F ad S H x y v w Q rs dx dy h => ?_⟩
  cases x with
  | str x =>
    cases y with
    | str z =>
      obtain ⟨c, S1, e, h⟩ := Fin.look h fun _ _ => opt_ex
      obtain ⟨rfl, e3⟩ := opt_ok e
      cases dx; cases dy
      exact .inl ⟨c, z, by rw [signOf_eq e3], rfl, Fin.pure rs h rfl⟩
    | _ => (simp only [inD] at h; exact .inr (in_core (neg := true) rs dx dy h))
  | _ => exact h.elim
end
end Fx

end
/-! ## Fx3 -/
section
namespace Fx
open PySem PySem.Spec PyProof.Rows L2
variable [tb : Tabl]

/-! ### defs by functions -/
def spF (K : PySem.W.Frag) (mg : Str → Option Value) (g : List D → M D) : Sp := fun vs H Q E =>
  ∃ F ad S ds, RS K F ad S H ∧ DPs K F ad S.length ds vs ∧ (match g ds S with
    | .ok d S' => ∀ v F' ad' H', Nx F ad S H F' ad' S' H' → RS K F' ad' S' H' → DP K F' ad' S'.length d v → Q v H'
    | .ex e S' => ∀ cls dd F' ad' H', Nx F ad S H F' ad' S' H' → RS K F' ad' S' H' → ER K mg F' ad' S'.length e cls dd H' → E cls dd H'
    | .no => False)
/-- called where nothing is being shown (if q) -/
structure FnG (q : Bool) (P : Program) (w : World) (K : PySem.W.Frag) (mg : Str → Option Value) (base : Heap) (k : Nat) (f : Addr) (fd : FuncData) (ps : List Str) (g : List D → M D) : Prop where
  len : ∀ vs H Q E, spF K mg g vs H Q E → vs.length = ps.length
  run : ∀ (A : Around) (outer : List PySem.Env) (s : Shared) (H : Hp) (args : Args) (us : List Value) (vs : List V) (Q : VK) (E : XK),
    (q = true → A.guards = some []) → Room k A → Env0 P w K mg base A outer s H → BindsTo s fd args (ps.zip us) → Vals vs us →
    spF K mg g vs H Q E → codeAny (model P w) A (.call (.ref f) args) (CR (L2.CX P w) outer P w H s Q E) s
theorem FnG.mono {q P w K mg base j k f fd ps g} (F : FnG q P w K mg base j f fd ps g) (h : j ≤ k) : FnG q P w K mg base k f fd ps g :=
  ⟨F.len, fun A outer s H args us vs Q E hg hr => F.run A outer s H args us vs Q E hg (hr.mono h)⟩

/-- what a def's body is -/
inductive Fl where
  | nx (env : Env) | rt (d : D) | bk (env : Env) | ct (env : Env)
/-- a statement by a function: what is next, the slots at an error -/
inductive RsS where
  | ok (f : Fl) (S : Store) | ex (e : Ex) (env : Env) (S : Store) | no
abbrev MS := Store → RsS

/-- the end of a statement -/
def FinS (X : Cx) (W : WX) (D : Ends) (F : Hp) (ad : Nat → Addr) (S : Store) (H : Hp) (r : RsS) : Prop :=
  match r with
  | .ok (.nx env') S' => ∀ σ' F' ad' H', Nx F ad S H F' ad' S' H' → RS X.K F' ad' S' H' → RE X.K F' ad' S'.length env' σ' → σ'.length = X.N.length → D.nx σ' H'
  | .ok (.rt d) S' => ∀ v F' ad' H', Nx F ad S H F' ad' S' H' → RS X.K F' ad' S' H' → DP X.K F' ad' S'.length d v → D.rt v H'
  | .ok (.bk env') S' => ∀ σ' F' ad' H', Nx F ad S H F' ad' S' H' → RS X.K F' ad' S' H' → RE X.K F' ad' S'.length env' σ' → σ'.length = X.N.length → D.bk σ' H'
  | .ok (.ct env') S' => ∀ σ' F' ad' H', Nx F ad S H F' ad' S' H' → RS X.K F' ad' S' H' → RE X.K F' ad' S'.length env' σ' → σ'.length = X.N.length → D.ct σ' H'
  | .ex e env' S' => ∀ cls dd σ' F' ad' H', Nx F ad S H F' ad' S' H' → RS X.K F' ad' S' H' → RE X.K F' ad' S'.length env' σ' → σ'.length = X.N.length → ER X.K X.mg F' ad' S'.length e cls dd H' → W cls dd σ' H'
  | .no => False
theorem FinS.from {X : Cx} {W : WX} {D : Ends} {F ad S H F1 ad1 S1 H1} {r : RsS} (n1 : Nx F ad S H F1 ad1 S1 H1) (h : FinS X W D F ad S H r) : FinS X W D F1 ad1 S1 H1 r := by
  cases r with
  | no => exact h
  | ex e env' S' => exact fun c dd σ' F' ad' H' n r re l er => h c dd σ' F' ad' H' (n1.trans n) r re l er
  | ok f S' =>
    cases f with
    | nx e => exact fun σ' F' ad' H' n r re l => h σ' F' ad' H' (n1.trans n) r re l
    | bk e => exact fun σ' F' ad' H' n r re l => h σ' F' ad' H' (n1.trans n) r re l
    | ct e => exact fun σ' F' ad' H' n r re l => h σ' F' ad' H' (n1.trans n) r re l
    | rt d => exact fun v F' ad' H' n r dp => h v F' ad' H' (n1.trans n) r dp
def tS (X : Cx) (W : WX) (f : Env → MS) : TS := fun D σ H => ∃ F ad env S, RE X.K F ad S.length env σ ∧ RS X.K F ad S H ∧ FinS X W D F ad S H (f env S)
structure FS (X : Cx) (W : WX) (st : Stmt) (f : Env → MS) : Prop where
  run : PS X st (tS X W f)
structure FSs (X : Cx) (W : WX) (sts : List Stmt) (f : Env → MS) : Prop where
  run : PSs X sts (tS X W f)
theorem PS.weakI {X : Cx} {e : Stmt} {t t' : TS} (h : PS X e t) (w : ∀ D σ H, σ.length = X.N.length → t' D σ H → t D σ H) : PS X e t' := ⟨fun pins s σ H D I q => h.run pins s σ H D I (w _ _ _ I.len q)⟩
theorem PSs.weakI {X : Cx} {e : List Stmt} {t t' : TS} (h : PSs X e t) (w : ∀ D σ H, σ.length = X.N.length → t' D σ H → t D σ H) : PSs X e t' := ⟨fun pins s σ H D I q => h.run pins s σ H D I (w _ _ _ I.len q)⟩

def lft {α : Type} (m : M α) (env : Env) (k : α → MS) : MS := fun S => match m S with
  | .ok a S' => k a S'
  | .ex e S' => .ex e env S'
  | .no => .no
theorem FinS.seqE {α β : Type} {X : Cx} {W : WX} {RR : Hp → (Nat → Addr) → Nat → α → β → Prop} {D : Ends} {m : M α} {env : Env} {k : α → MS} {σ : L2.St} {F ad S H} {Q1 : β → Hp → Prop} (re : RE X.K F ad S.length env σ) (hl : σ.length = X.N.length)
    (h : FinS X W D F ad S H (lft m env k S))
    (hk : ∀ F1 ad1 S1 d v H1, Nx F ad S H F1 ad1 S1 H1 → RE X.K F1 ad1 S1.length env σ → RS X.K F1 ad1 S1 H1 → RR F1 ad1 S1.length d v → FinS X W D F1 ad1 S1 H1 (k d S1) → Q1 v H1) :
    Fin X W RR σ F ad S H (m S) Q1 := by
  simp only [lft] at h
  cases e : m S with
  | ok d S1 =>
    rw [e] at h
    exact fun v F1 ad1 H1 n1 r1 p1 => hk F1 ad1 S1 d v H1 n1 (re.mono n1.gr) r1 p1 (h.from n1)
  | ex x S1 =>
    rw [e] at h
    exact fun c dd F1 ad1 H1 n1 r1 er => h c dd σ F1 ad1 H1 n1 r1 (re.mono n1.gr) hl er
  | no => rw [e] at h; exact h

section
variable {X : Cx} {W : WX} {pos : Pos} {e c : Expr} {f : Env → M D} {st : Stmt} {sts sts' : List Stmt} {g g' : Env → MS}
/-! ### statements -/
def pass : Env → MS := fun env S => .ok (.nx env) S
theorem fss_nil : FSs X W [] pass := ⟨PSs.weakI pss_nil fun D σ H hl ⟨F, ad, env, S, re, rs, h⟩ => h σ F ad H .refl rs re hl⟩
def seqS (g g' : Env → MS) : Env → MS := fun env S => match g env S with
  | .ok (.nx env') S' => g' env' S'
  | r => r
theorem fss_cons (h1 : FS X W st g) (h2 : FSs X W sts g') : FSs X W (st :: sts) (seqS g g') := by
  refine ⟨PSs.weakI (pss_cons h1.run h2.run) fun D σ H hl ⟨F, ad, env, S, re, rs, h⟩ => ?_⟩
  refine ⟨F, ad, env, S, re, rs, ?_⟩
  simp only [seqS] at h
  cases q : g env S with
  | no => rw [q] at h; exact h
  | ex x env' S' => rw [q] at h; exact h
  | ok fl S' =>
    rw [q] at h
    cases fl with
    | nx env' => exact fun σ' F' ad' H' n r re' l => ⟨F', ad', env', S', re', r, FinS.from n h⟩
    | rt d => exact h
    | bk d => exact h
    | ct d => exact h
theorem fss_one (h1 : FS X W st g) : FSs X W [st] g := ⟨pss_one h1.run⟩
theorem fs_pass : FS X W (.Pass pos) pass := ⟨PS.weakI ps_pass fun D σ H hl ⟨F, ad, env, S, re, rs, h⟩ => h σ F ad H .refl rs re hl⟩
theorem fs_doc {x j pos'} : FS X W (.Expr (.Constant (.str x) j pos) pos') pass := ⟨PS.weakI ps_doc fun D σ H hl ⟨F, ad, env, S, re, rs, h⟩ => h σ F ad H .refl rs re hl⟩
theorem fs_continue : FS X W (.Continue pos) (fun env S => .ok (.ct env) S) := ⟨PS.weakI ps_continue fun D σ H hl ⟨F, ad, env, S, re, rs, h⟩ => h σ F ad H .refl rs re hl⟩
theorem fs_break : FS X W (.Break pos) (fun env S => .ok (.bk env) S) := ⟨PS.weakI ps_break fun D σ H hl ⟨F, ad, env, S, re, rs, h⟩ => h σ F ad H .refl rs re hl⟩
def ret (f : Env → M D) : Env → MS := fun env => lft (f env) env fun d S => .ok (.rt d) S
theorem fs_ret (he : FE X W e f) : FS X W (.Return (some e) pos) (ret f) :=
  ⟨PS.weakI (ps_ret he.run) fun D σ H hl ⟨F, ad, env, S, re, rs, h⟩ => ⟨F, ad, env, S, re, rs, FinS.seqE re hl h fun F1 ad1 S1 d v H1 n1 re1 rs1 dp1 h1 => h1 v F1 ad1 H1 .refl rs1 dp1⟩⟩
theorem fs_retN : FS X W (.Return none pos) (fun _ S => .ok (.rt .non) S) := ⟨PS.weakI ps_retN fun D σ H hl ⟨F, ad, env, S, re, rs, h⟩ => h .non F ad H .refl rs rfl⟩
def drop (f : Env → M D) : Env → MS := fun env => lft (f env) env fun _ S => .ok (.nx env) S
theorem fs_expr (he : FE X W e f) (hs : swapsWith e none pos.line X.env = pure false := by rfl) : FS X W (.Expr e pos) (drop f) :=
  ⟨PS.weakI (ps_expr he.run hs) fun D σ H hl ⟨F, ad, env, S, re, rs, h⟩ => ⟨F, ad, env, S, re, rs, FinS.seqE re hl h fun F1 ad1 S1 d v H1 n1 re1 rs1 dp1 h1 => h1 σ F1 ad1 H1 .refl rs1 re1 hl⟩⟩
def ifS (p : Env → M Bool) (g g' : Env → MS) : Env → MS := fun env => lft (p env) env fun b => if b = true then g env else g' env
theorem fs_if {p : Env → M Bool} (hc : FT X W c p) (ha : FSs X W sts g) (hb : FSs X W sts' g') : FS X W (.If c sts sts' pos) (ifS p g g') := by
  refine ⟨PS.weakI (ps_if hc.run ha.run hb.run) fun D σ H hl ⟨F, ad, env, S, re, rs, h⟩ => ⟨F, ad, env, S, re, rs, FinS.seqE re hl h fun F1 ad1 S1 d v H1 n1 re1 rs1 dp1 h1 => ?_⟩⟩
  subst dp1
  cases d with
  | true => exact iteT ⟨F1, ad1, env, S1, re1, rs1, by simpa using h1⟩
  | false => exact iteF ⟨F1, ad1, env, S1, re1, rs1, by simpa using h1⟩
/-! ### targets -/
/-- σ' is σ but for the slots ws -/
def But (ws : List Nat) (σ σ' : L2.St) : Prop := σ'.length = σ.length ∧ ∀ j : Nat, j ∉ ws → σ'[j]? = σ[j]?
def FG (X : Cx) (tg : Expr) (ws : List Nat) (t : D → Env → Option Env) : Prop := ∃ r : TG, PG X tg r ∧
  ∀ d v env env' σ F ad S H (Q : L2.St → Hp → Prop), RS X.K F ad S H → DP X.K F ad S.length d v → RE X.K F ad S.length env σ → σ.length = X.N.length → t d env = some env' →
  (∀ σ', RE X.K F ad S.length env' σ' → But ws σ σ' → Q σ' H) → r v σ H Q
def toN (i : Nat) : D → Env → Option Env := fun d env => some (env.set i (some d))
theorem fg_name {i : Nat} {x : Str} {p : Pos} (hN : X.N.Nodup) (hi : X.N[i]? = some x) (hx : Loc X.env.scope x) (hf : X.fn x = true ∨ X.env.scope.names.lookup x = some .local := by first | exact .inl rfl | exact .inr rfl | assumption) : FG X (.Name x p) [i] (toN i) := by
  refine ⟨_, pg_name hN hi hx hf, fun d v env env' σ F ad S H Q rs dp re hl e k => ?_⟩
  cases e
  have : i < σ.length := by rw [hl]; exact lt_of_some hi
  refine k _ (re.set dp this) ⟨by rw [List.length_set], fun j hj => ?_⟩
  rw [List.getElem?_set_ne (fun z => hj (by rw [z]; exact List.mem_singleton.mpr rfl))]
def FGs (X : Cx) (ts : List Expr) (ws : List Nat) (n : Nat) (t : List D → Env → Option Env) : Prop := (∀ ds env env', t ds env = some env' → ds.length = n) ∧ ∃ r : TGs, PGs X ts r ∧
  ∀ ds vs env env' σ F ad S H (Q : L2.St → Hp → Prop), RS X.K F ad S H → DPs X.K F ad S.length ds vs → RE X.K F ad S.length env σ → σ.length = X.N.length → t ds env = some env' →
  (∀ σ', RE X.K F ad S.length env' σ' → But ws σ σ' → Q σ' H) → r vs σ H Q
def toNil : List D → Env → Option Env := fun ds env => match ds with
  | [] => some env
  | _ => none
def toCons (t : D → Env → Option Env) (u : List D → Env → Option Env) : List D → Env → Option Env := fun ds env => match ds with
  | [] => none
  | d :: r => match t d env with
    | none => none
    | some env1 => u r env1
theorem fgs_nil : FGs X [] [] 0 toNil := by
  refine ⟨fun ds env env' e => ?_, _, pgs_nil, fun ds vs env env' σ F ad S H Q rs dp re hl e k => ?_⟩
  · cases ds with
    | nil => rfl
    | cons _ _ => cases e
  · cases ds with
    | nil => cases e; exact ⟨dp, k _ re ⟨rfl, fun _ _ => rfl⟩⟩
    | cons _ _ => cases e
theorem fgs_cons {t : Expr} {ts : List Expr} {n : Nat} {w1 w2 : List Nat} {u : D → Env → Option Env} {us : List D → Env → Option Env} (h1 : FG X t w1 u) (h2 : FGs X ts w2 n us)
    (h : (assignEach (t :: ts) X.env).map (·.2) = assign t X.env :: (assignEach ts X.env).map (·.2) := by rfl) : FGs X (t :: ts) (w1 ++ w2) (n + 1) (toCons u us) := by
  obtain ⟨r1, p1, q1⟩ := h1
  obtain ⟨l2, r2, p2, q2⟩ := h2
  have parts : ∀ ds env env', toCons u us ds env = some env' → ∃ d r env1, ds = d :: r ∧ u d env = some env1 ∧ us r env1 = some env' := fun ds env env' e => by
    cases ds with
    | nil => cases e
    | cons d r =>
      simp only [toCons] at e
      split at e
      · cases e
      · rename_i env1 e1
        exact ⟨d, r, env1, rfl, e1, e⟩
  refine ⟨fun ds env env' e => ?_, _, pgs_cons p1 p2 h, fun ds vs env env' σ F ad S H Q rs dp re hl e k => ?_⟩
  · obtain ⟨d, r, env1, rfl, _, e2⟩ := parts ds env env' e
    rw [List.length_cons, l2 r env1 env' e2]
  · obtain ⟨d, r, env1, rfl, e1, e2⟩ := parts ds env env' e
    obtain ⟨v, vr, rfl, dv, dr⟩ := dp
    refine ⟨v, vr, rfl, q1 d v env env1 σ F ad S H _ rs dv re hl e1 fun σ1 re1 b1 => q2 r vr env1 env' σ1 F ad S H Q rs dr re1 (by rw [b1.1, hl]) e2 fun σ2 re2 b2 => k σ2 re2 ⟨by rw [b2.1, b1.1], fun j hj => ?_⟩⟩
    rw [List.mem_append, not_or] at hj
    rw [b2.2 j hj.2, b1.2 j hj.1]
/-- (a, b, ..) = a tuple -/
def toTup (us : List D → Env → Option Env) : D → Env → Option Env := fun d env => match d with
  | .tup ds => us ds env
  | .utp ds => us ds env
  | _ => none
theorem fg_tup {es : List Expr} {ws : List Nat} {n k : Nat} {p : Pos} {us : List D → Env → Option Env} (hc : X.calm = true) (h : FGs X es ws n us) (hn : (assignEach es X.env).length = n := by rfl) (hst : (assignEach es X.env).findIdx? (·.1) = none := by rfl) : FG X (.Tuple es k p) ws (toTup us) := by
  obtain ⟨l, r, p1, q1⟩ := h
  refine ⟨_, pg_tup hc p1 hn hst, fun d v env env' σ F ad S H Q rs dp re hl e k => ?_⟩
  cases d <;> first
    | (cases e; done)
    | skip
  case tup ds =>
    obtain ⟨a, xs, rfl, hx, dx⟩ := dp
    exact ⟨a, xs, rfl, sqT_mono rs.sub hx.sq, by rw [← dx.length]; exact l ds env env' e, q1 ds xs env env' σ F ad S H Q rs dx re hl e k⟩
  case utp ds =>
    obtain ⟨a, xs, rfl, hx, dx⟩ := dp
    exact ⟨a, xs, rfl, sqT_mono rs.sub hx, by rw [← dx.length]; exact l ds env env' e, q1 ds xs env env' σ F ad S H Q rs dx re hl e k⟩
/-- target = e -/
def asg (f : Env → M D) (t : D → Env → Option Env) : Env → MS := fun env => lft (f env) env fun d S => match t d env with
  | some env' => .ok (.nx env') S
  | none => .no
theorem fs_asg {tg : Expr} {ws : List Nat} {t : D → Env → Option Env} (he : FE X W e f) (hg : FG X tg ws t) (hs : swapsWithSole [tg] e pos.line X.env = pure false := by rfl) (hw : swappedStores [tg] e X.env = pure none := by rfl)
    (h1 : (assignEach [tg] X.env).map (·.2) = [assign tg X.env] := by rfl) : FS X W (.Assign [tg] e pos) (asg f t) := by
  obtain ⟨r, hr, hq⟩ := hg
  refine ⟨PS.weakI (ps_asg he.run hr hs hw h1) fun D σ H hl ⟨F, ad, env, S, re, rs, h⟩ => ⟨F, ad, env, S, re, rs, FinS.seqE re hl h fun F1 ad1 S1 d v H1 n1 re1 rs1 dp1 h1 => ?_⟩⟩
  cases q : t d env with
  | none => simp only [q] at h1; exact h1.elim
  | some env' =>
    simp only [q] at h1
    exact hq d v env env' σ F1 ad1 S1 H1 _ rs1 dp1 re1 hl q fun σ' re' b => h1 σ' F1 ad1 H1 .refl rs1 re' (by rw [b.1, hl])
/-- x = e -/
def set (i : Nat) (f : Env → M D) : Env → MS := fun env => lft (f env) env fun d S => .ok (.nx (env.set i (some d))) S
theorem fs_set {i : Nat} {x : Str} {p : Pos} (hN : X.N.Nodup) (hi : X.N[i]? = some x) (hx : Loc X.env.scope x) (he : FE X W e f) (hs : swapsWith e (some (.Name x p)) pos.line X.env = pure false := by rfl)
    (hf : X.fn x = true ∨ X.env.scope.names.lookup x = some .local := by first | exact .inl rfl | exact .inr rfl | assumption) : FS X W (.Assign [.Name x p] e pos) (set i f) := by
  refine ⟨PS.weakI (ps_set hN hi hx he.run hs hf) fun D σ H hl ⟨F, ad, env, S, re, rs, h⟩ => ⟨F, ad, env, S, re, rs, FinS.seqE re hl h fun F1 ad1 S1 d v H1 n1 re1 rs1 dp1 h1 => ?_⟩⟩
  have : i < σ.length := by rw [hl]; exact lt_of_some hi
  exact h1 _ F1 ad1 H1 .refl rs1 (re1.set dp1 this) (by rw [List.length_set]; exact hl)
/-- a, b = e1, e2 -/
def par (i j : Nat) (t : Env → M (List D)) : Env → MS := fun env => lft (t env) env fun ds S => match ds with
  | [u, v] => .ok (.nx ((env.set i (some u)).set j (some v))) S
  | _ => .no
theorem fs_par {i j : Nat} {x y : Str} {a b : Expr} {t : Env → M (List D)} {px py pt : Pos} {kt k2 pt2} (hc : X.calm = true) (hN : X.N.Nodup) (hi : X.N[i]? = some x) (hj : X.N[j]? = some y) (hij : i ≠ j)
    (hx : X.env.scope.names.lookup x = some .local) (hy : X.env.scope.names.lookup y = some .local) (ha : FA X W [a, b] t)
    (hw : swappedStores [.Tuple [.Name x px, .Name y py] kt pt] (.Tuple [a, b] k2 pt2) X.env = pure (some [x, y]))
    (hs : swapsWithSole [.Tuple [.Name x px, .Name y py] kt pt] (.Tuple [a, b] k2 pt2) pos.line X.env = pure false := by rfl) :
    FS X W (.Assign [.Tuple [.Name x px, .Name y py] kt pt] (.Tuple [a, b] k2 pt2) pos) (par i j t) := by
  refine ⟨PS.weakI (ps_par hc hN hi hj hij hx hy ha.run hw hs) fun D σ H hl ⟨F, ad, env, S, re, rs, h⟩ => ⟨F, ad, env, S, re, rs, FinS.seqE re hl h fun F1 ad1 S1 ds vs H1 n1 re1 rs1 dp1 h1 => ?_⟩⟩
  have l1 : i < σ.length := by rw [hl]; exact lt_of_some hi
  have l2 : j < (σ.set i (some (vs.getD 0 .non))).length := by rw [List.length_set, hl]; exact lt_of_some hj
  match ds, h1 with
  | [u, v], h1 =>
    obtain ⟨v1, r1, rfl, d1, v2, r2, rfl, d2, e3⟩ := dp1
    cases e3
    exact ⟨v1, v2, rfl, h1 _ F1 ad1 H1 .refl rs1 ((re1.set d1 l1).set d2 l2) (by rw [List.length_set, List.length_set]; exact hl)⟩

/-! ### what is walked -/
def ItOk (X : Cx) (F : Hp) (ad : Nat → Addr) (L : Nat) (ds : List D) (J : It) : Prop := ∀ F' ad' S' H', Gr F ad L F' ad' S'.length → RS X.K F' ad' S' H' → ∀ i : Nat,
  (∀ d, ds[i]? = some d → J.go i H' ∧ ∀ x H'', J.yld i H' x H'' → ∃ F2 ad2, Nx F' ad' S' H' F2 ad2 S' H'' ∧ RS X.K F2 ad2 S' H'' ∧ DP X.K F2 ad2 S'.length d x) ∧ (ds.length ≤ i → J.stop i H')
def FI (X : Cx) (W : WX) (tg iter : Expr) (m : Env → M (List D)) : Prop := ∃ wi, PI X tg iter wi ∧ ∀ σ H (R : It → Hp → Prop) F ad env S, RE X.K F ad S.length env σ → RS X.K F ad S H → Fin X W (ItOk X) σ F ad S H (m env S) R → wi σ H R
theorem PI.or {tg iter : Expr} {w1 w2 : TI} (h1 : PI X tg iter w1) (h2 : PI X tg iter w2) : PI X tg iter (fun σ H R => w1 σ H R ∨ w2 σ H R) :=
  ⟨fun pins s σ H R I h => h.elim (h1.run pins s σ H R I) (h2.run pins s σ H R I)⟩
/-- the items of what never changes -/
def itm : D → M (List D)
  | .lst xs => pur xs
  | .tup xs => pur xs
  | .scr ns => pur (ns.map D.int)
  | .str x => pur (x.cps.toList.map fun c => .str ⟨#[c]⟩)
  | _ => mno
def itf (f : Env → M D) : Env → M (List D) := fun env => bd (f env) itm
theorem itOk_list {F ad L} {ds : List D} {a : Addr} {vs : List V} (q : SqL X.K F a vs) (dp : DPs X.K F ad L ds vs) : ItOk X F ad L ds (Itl X.K a) := fun F' ad' S' H' g rs i => by
  have q' : SqL X.K H' a vs := sqL_mono rs.sub (sqL_mono g.f q)
  have dp' := DPs.mono g ds vs dp
  refine ⟨fun d e => ?_, fun hi => ⟨vs, q', by rw [← dp.length]; exact hi⟩⟩
  obtain ⟨v, e1, e2⟩ := dp'.at e
  refine ⟨⟨vs, v, q', e1⟩, fun x H'' y => ?_⟩
  have := y.2 vs q'
  rw [e1] at this; cases this
  rw [y.1]
  exact ⟨F', ad', .refl, rs, e2⟩
theorem itOk_tup {F ad L} {ds : List D} {a : Addr} {vs : List V} (q : SqT X.K F a vs) (dp : DPs X.K F ad L ds vs) : ItOk X F ad L ds (Itt X.K a) := fun F' ad' S' H' g rs i => by
  have q' : SqT X.K H' a vs := sqT_mono rs.sub (sqT_mono g.f q)
  have dp' := DPs.mono g ds vs dp
  refine ⟨fun d e => ?_, fun hi => ⟨vs, q', by rw [← dp.length]; exact hi⟩⟩
  obtain ⟨v, e1, e2⟩ := dp'.at e
  refine ⟨⟨vs, v, q', e1⟩, fun x H'' y => ?_⟩
  have := y.2 vs q'
  rw [e1] at this; cases this
  rw [y.1]
  exact ⟨F', ad', .refl, rs, e2⟩
theorem itOk_str {F ad L} (x : Str) : ItOk X F ad L (x.cps.toList.map fun c => .str ⟨#[c]⟩) (Its x) := fun F' ad' S' H' g rs i => by
  refine ⟨fun d e => ?_, fun hi => ?_⟩
  · rw [List.getElem?_map] at e
    cases q : x.cps.toList[i]? with
    | none => rw [q] at e; cases e
    | some c =>
      rw [q] at e; cases e
      have hi : i < x.cps.size := by have := lt_of_some q; simpa using this
      refine ⟨hi, fun y H'' ⟨h1, c', h2, h3⟩ => ?_⟩
      rw [Array.getElem?_toList] at q
      rw [q] at h2; cases h2
      rw [h1]
      exact ⟨F', ad', .refl, rs, h3⟩
  · show x.cps.size ≤ i
    simpa using hi
theorem fi_seq {tg : Expr} (he : FE X W e f) : FI X W tg e (itf f) := by
  refine ⟨_, PI.or (pi_list he.run) (PI.or (pi_tup he.run) (pi_str he.run)), fun σ H R F ad env S re rs h => ?_⟩
  -- the value is known ahead
  simp only [itf, bd] at h
  cases q : f env S with
  | no => rw [q] at h; exact h.elim
  | ex x S1 =>
    rw [q] at h
    exact .inl ⟨F, ad, env, S, re, rs, by rw [q]; exact h⟩
  | ok d S1 =>
    rw [q] at h
    cases d with
    | lst ds =>
      refine .inl ⟨F, ad, env, S, re, rs, ?_⟩
      rw [q]
      intro v F1 ad1 H1 n1 r1 p1
      obtain ⟨a, vs, rfl, h1, h2⟩ := p1
      exact ⟨a, rfl, ⟨vs, SqL.of (r1.sub _ _ h1)⟩, h _ F1 ad1 H1 n1 r1 (itOk_list (SqL.of h1) h2)⟩
    | scr ns =>
      refine .inl ⟨F, ad, env, S, re, rs, ?_⟩
      rw [q]
      intro v F1 ad1 H1 n1 r1 p1
      obtain ⟨a, rfl, h1⟩ := p1
      exact ⟨a, rfl, ⟨_, sqL_mono r1.sub h1⟩, h _ F1 ad1 H1 n1 r1 (itOk_list h1 (dps_ints ns))⟩
    | tup ds =>
      refine .inr (.inl ⟨F, ad, env, S, re, rs, ?_⟩)
      rw [q]
      intro v F1 ad1 H1 n1 r1 p1
      obtain ⟨a, vs, rfl, h1, h2⟩ := p1
      exact ⟨a, rfl, ⟨vs, sqT_mono r1.sub h1.sq⟩, h _ F1 ad1 H1 n1 r1 (itOk_tup h1.sq h2)⟩
    | str x =>
      refine .inr (.inr ⟨F, ad, env, S, re, rs, ?_⟩)
      rw [q]
      intro v F1 ad1 H1 n1 r1 p1
      exact ⟨x, p1, h _ F1 ad1 H1 n1 r1 (itOk_str x)⟩
    | non => exact h.elim
    | bl _ => exact h.elim
    | int _ => exact h.elim
    | obj _ => exact h.elim
    | err a dd ns ds => exact h.elim
    | utp _ => exact h.elim
/-- range(..) -/
def rng (lo hi : Int) : List D := (List.range (hi - lo).toNat).map fun (k : Nat) => .int (lo + k)
def inR (n : Int) : Prop := -(2 ^ 62) ≤ n ∧ n < 2 ^ 62
instance (n : Int) : Decidable (inR n) := inferInstanceAs (Decidable (_ ∧ _))
def rng1M : List D → M (List D)
  | [.int n] => if inR n then pur (rng 0 n) else mno
  | _ => mno
def rng2M : List D → M (List D)
  | [.int lo, .int hi] => if inR lo ∧ inR hi then pur (rng lo hi) else mno
  | _ => mno
def itr1 (t : Env → M (List D)) : Env → M (List D) := fun env => bd (t env) rng1M
def itr2 (t : Env → M (List D)) : Env → M (List D) := fun env => bd (t env) rng2M
theorem itOk_rng {F ad L} (lo hi : Int) : ItOk X F ad L (rng lo hi) (Itr lo (hi - lo).toNat) := fun F' ad' S' H' g rs i => by
  unfold rng
  refine ⟨fun d e => ?_, fun h => by show (hi - lo).toNat ≤ i; rw [List.length_map, List.length_range] at h; exact h⟩
  rw [List.getElem?_map] at e
  cases q : (List.range (hi - lo).toNat)[i]? with
  | none => rw [q] at e; cases e
  | some k =>
    rw [q] at e; cases e
    have hi : i < (hi - lo).toNat := by have := lt_of_some q; simpa using this
    rw [List.getElem?_range hi] at q
    cases q
    exact ⟨hi, fun y H'' ⟨h1, h2⟩ => by rw [h1]; exact ⟨F', ad', .refl, rs, h2⟩⟩
theorem fi_range1 {tg a : Expr} {t : Env → M (List D)} {p pos : Pos} (hg : Gl X "range") (hm : X.mg "range" = none) (ha : FA X W [a] t) (hs : starEach [a] X.env = [(false, eval a X.env)] := by rfl) : FI X W tg (.Call (.Name "range" p) [a] [] pos) (itr1 t) := by
  refine ⟨_, pi_range1 hg hm ha.run hs, fun σ H R F ad env S re rs h => ⟨F, ad, env, S, re, rs, Fin.seq re h fun F1 ad1 S1 ds vs H1 n1 re1 rs1 dp1 h1 => ?_⟩⟩
  unfold rng1M at h1
  split at h1
  · rename_i n
    obtain ⟨c, h1⟩ := Fin.ift h1
    obtain ⟨v, r, e, d1, e2⟩ := dp1
    cases d1; cases e2; cases e
    refine ⟨n, rfl, c.1, c.2, Fin.pure rs1 h1 ?_⟩
    have := itOk_rng (X := X) (F := F1) (ad := ad1) (L := S1.length) 0 n
    rw [Int.sub_zero] at this
    exact this
  · exact h1.elim
theorem fi_range2 {tg a b : Expr} {t : Env → M (List D)} {p pos : Pos} (hg : Gl X "range") (hm : X.mg "range" = none) (ha : FA X W [a, b] t) (hs : starEach [a, b] X.env = [(false, eval a X.env), (false, eval b X.env)] := by rfl) (hs2 : starEach [b] X.env = [(false, eval b X.env)] := by rfl) :
    FI X W tg (.Call (.Name "range" p) [a, b] [] pos) (itr2 t) := by
  refine ⟨_, pi_range2 hg hm ha.run hs hs2, fun σ H R F ad env S re rs h => ⟨F, ad, env, S, re, rs, Fin.seq re h fun F1 ad1 S1 ds vs H1 n1 re1 rs1 dp1 h1 => ?_⟩⟩
  unfold rng2M at h1
  split at h1
  · rename_i lo hi
    obtain ⟨c, h1⟩ := Fin.ift h1
    obtain ⟨v, r, e, d1, v2, r2, e2, d2, e3⟩ := dp1
    cases d1; cases d2; cases e3; cases e2; cases e
    exact ⟨lo, hi, rfl, ⟨c.1.1, c.1.2, c.2.1, c.2.2⟩, Fin.pure rs1 h1 (itOk_rng lo hi)⟩
  · exact h1.elim

/-! ### loops -/
def loop (t : D → Env → Option Env) (b : Env → MS) : List D → Env → MS
  | [], env => fun S => .ok (.nx env) S
  | d :: ds, env => fun S => match t d env with
    | none => .no
    | some env1 => match b env1 S with
      | .ok (.nx env2) S' => loop t b ds env2 S'
      | .ok (.ct env2) S' => loop t b ds env2 S'
      | .ok (.bk env2) S' => .ok (.nx env2) S'
      | r => r
def forS (m : Env → M (List D)) (t : D → Env → Option Env) (b : Env → MS) : Env → MS := fun env => lft (m env) env fun ds => loop t b ds env
theorem fs_for {tg iter : Expr} {body : List Stmt} {m : Env → M (List D)} {ws : List Nat} {t : D → Env → Option Env} {b : Env → MS} (hp : PassesOwn (model X.prog X.w) X.A X.env X.xe) (hc : X.calm = true) (hi : FI X W tg iter m) (hg : FG X tg ws t) (hb : FSs X W body b)
    (hs : ∀ x, foldedSetIterable iter X.env x = pure x := by intro _; rfl) : FS X W (.For tg iter body [] pos) (forS m t b) := by
  obtain ⟨wi, pi, hwi⟩ := hi
  obtain ⟨r, pg, hq⟩ := hg
  refine ⟨PS.weakI (ps_for hp hc pi pg hb.run hs) fun D σ H hl ⟨F, ad, env, S, re, rs, h⟩ => ?_⟩
  refine hwi σ H _ F ad env S re rs (FinS.seqE re hl h fun F1 ad1 S1 ds J H1 n1 re1 rs1 it1 h1 => ?_)
  -- the turns
  refine ⟨fun i k σ' H' => k = ds.length - i ∧ i ≤ ds.length ∧ σ'.length = X.N.length ∧ ∃ F' ad' env' S', Gr F1 ad1 S1.length F' ad' S'.length ∧ RE X.K F' ad' S'.length env' σ' ∧ RS X.K F' ad' S' H' ∧ FinS X W D F' ad' S' H' (loop t b (ds.drop i) env' S'),
    ⟨ds.length, by simp, Nat.zero_le _, hl, F1, ad1, env, S1, .refl, re1, rs1, by simpa using h1⟩, ?_⟩
  rintro i k σ' H' ⟨rfl, hi, hl', F', ad', env', S', g', re', rs', h'⟩
  obtain ⟨itg, its⟩ := it1 F' ad' S' H' g' rs' i
  by_cases hlt : i < ds.length
  · have hd : ds[i]? = some ds[i] := by simp [hlt]
    obtain ⟨jg, jy⟩ := itg _ hd
    have ed : ds.drop i = ds[i] :: ds.drop (i + 1) := by rw [List.drop_eq_getElem_cons hlt]
    rw [ed] at h'
    refine .inr ⟨jg, fun σ2 H2 => σ2.length = X.N.length ∧ ∃ F' ad' env' S', Gr F1 ad1 S1.length F' ad' S'.length ∧ RE X.K F' ad' S'.length env' σ2 ∧ RS X.K F' ad' S' H2 ∧ FinS X W D F' ad' S' H2 (loop t b (ds.drop (i + 1)) env' S'),
      fun σ2 H2 q => ⟨ds.length - (i + 1), by omega, rfl, hlt, q⟩, fun x H'' y => ?_⟩
    obtain ⟨F2, ad2, n2, rs2, dx⟩ := jy x H'' y
    have h' := FinS.from n2 h'
    have re' := re'.mono n2.gr
    have g' : Gr F1 ad1 S1.length F2 ad2 S'.length := ⟨fun a o z => n2.fsub a o (g'.f a o z), g'.l, fun n z => by rw [n2.adk n (Nat.lt_of_lt_of_le z g'.l), g'.a n z]⟩
    have rs' := rs2
    clear n2 rs2
    simp only [loop] at h'
    cases e1 : t ds[i] env' with
    | none => rw [e1] at h'; exact h'.elim
    | some env1 =>
      rw [e1] at h'
      refine hq ds[i] x env' env1 σ' F2 ad2 S' H'' _ rs' dx re' hl' e1 fun σ2 re2 b2 => ⟨F2, ad2, env1, S', re2, rs', ?_⟩
      simp only at h'
      cases e2 : b env1 S' with
      | no => rw [e2] at h'; exact h'
      | ex x1 env3 S3 => rw [e2] at h'; exact h'
      | ok fl S3 =>
        rw [e2] at h'
        cases fl with
        | rt d => exact h'
        | nx env3 => exact fun σ3 F3 ad3 H3 n3 rs3 re3 l3 => ⟨l3, F3, ad3, env3, S3, ⟨fun a o z => n3.fsub a o (g'.f a o z), Nat.le_trans g'.l n3.len, fun n z => by rw [n3.adk n (Nat.lt_of_lt_of_le z g'.l), g'.a n z]⟩, re3, rs3, FinS.from n3 h'⟩
        | ct env3 => exact fun σ3 F3 ad3 H3 n3 rs3 re3 l3 => ⟨l3, F3, ad3, env3, S3, ⟨fun a o z => n3.fsub a o (g'.f a o z), Nat.le_trans g'.l n3.len, fun n z => by rw [n3.adk n (Nat.lt_of_lt_of_le z g'.l), g'.a n z]⟩, re3, rs3, FinS.from n3 h'⟩
        | bk env3 => exact h'
  · have e : i = ds.length := by omega
    subst e
    refine .inl ⟨its (Nat.le_refl _), ?_⟩
    rw [List.drop_length] at h'
    exact h' σ' F' ad' H' .refl rs' re' hl'
/-- while c: b, at most n turns -/
def wloop (c : Env → M Bool) (b : Env → MS) : Nat → Env → MS
  | 0, _ => fun _ => .no
  | n + 1, env => lft (c env) env fun k => if k = true then (fun S => match b env S with
      | .ok (.nx env2) S' => wloop c b n env2 S'
      | .ok (.ct env2) S' => wloop c b n env2 S'
      | .ok (.bk env2) S' => .ok (.nx env2) S'
      | r => r) else fun S => .ok (.nx env) S
def whileS (n : Env → Store → Nat) (c : Env → M Bool) (b : Env → MS) : Env → MS := fun env S => wloop c b (n env S) env S
theorem fs_while {n : Env → Store → Nat} {c : Expr} {body : List Stmt} {p : Env → M Bool} {b : Env → MS} (hp : PassesOwn (model X.prog X.w) X.A X.env X.xe) (hc : FT X W c p) (hb : FSs X W body b) : FS X W (.While c body [] pos) (whileS n p b) := by
  refine ⟨PS.weakI (ps_while hp hc.run hb.run) fun D σ H hl ⟨F, ad, env, S, re, rs, h⟩ => ?_⟩
  refine ⟨fun k σ' H' => σ'.length = X.N.length ∧ ∃ F' ad' env' S', RE X.K F' ad' S'.length env' σ' ∧ RS X.K F' ad' S' H' ∧ FinS X W D F' ad' S' H' (wloop p b k env' S'), ⟨_, hl, F, ad, env, S, re, rs, h⟩, ?_⟩
  rintro k σ' H' ⟨hl', F', ad', env', S', re', rs', h'⟩
  cases k with
  | zero => exact h'.elim
  | succ k =>
    refine ⟨F', ad', env', S', re', rs', FinS.seqE re' hl' (show FinS X W D F' ad' S' H' (lft (p env') env' _ S') from h') fun F1 ad1 S1 d v H1 n1 re1 rs1 dp1 h1 => ?_⟩
    subst dp1
    cases d with
    | false => exact iteF (h1 σ' F1 ad1 H1 .refl rs1 re1 hl')
    | true =>
      refine iteT ⟨fun σ2 H2 => σ2.length = X.N.length ∧ ∃ F' ad' env' S', RE X.K F' ad' S'.length env' σ2 ∧ RS X.K F' ad' S' H2 ∧ FinS X W D F' ad' S' H2 (wloop p b k env' S'), fun σ2 H2 q => ⟨k, Nat.lt_succ_self k, q⟩, F1, ad1, env', S1, re1, rs1, ?_⟩
      simp only [if_true] at h1
      cases e2 : b env' S1 with
      | no => rw [e2] at h1; exact h1
      | ex x1 env3 S3 => rw [e2] at h1; exact h1
      | ok fl S3 =>
        rw [e2] at h1
        cases fl with
        | rt d => exact h1
        | nx env3 => exact fun σ3 F3 ad3 H3 n3 rs3 re3 l3 => ⟨l3, F3, ad3, env3, S3, re3, rs3, FinS.from n3 h1⟩
        | ct env3 => exact fun σ3 F3 ad3 H3 n3 rs3 re3 l3 => ⟨l3, F3, ad3, env3, S3, re3, rs3, FinS.from n3 h1⟩
        | bk env3 => exact h1
end
end Fx

end
/-! ## Fx4 -/
section
namespace Fx
open PySem PySem.Spec PyProof.Rows L2
variable [tb : Tabl]

/-! ### a private object -/
section
variable {K : PySem.W.Frag} {F H : Hp} {ad : Nat → Addr} {S : Store} {p : Addr} {o : HO}
theorem tabs_priv {T : List (Addr × Str)} {b : Addr} {u : HO} (t : LamX.Tabs T H) (hq : ∀ u, H b = some u → (∀ ps, u ≠ .tbl ps) ∧ ∀ c q, u ≠ LamX.CodeO c q) : LamX.Tabs T (upd H b u) := by
  cases e : H b with
  | none => exact t.ext fun a v q => by rw [upd_ne (ne_of_none q e)]; exact q
  | some v => exact tabs_put t e (hq v e).1 (hq v e).2
theorem lst_ne {xs : List V} : (∀ ps, HO.lst xs ≠ .tbl ps) ∧ ∀ c q, HO.lst xs ≠ LamX.CodeO c q := ⟨fun ps z => (by cases z), fun c q z => by unfold LamX.CodeO at z; cases z⟩
theorem none_ne (h : H p = none) : ∀ u, H p = some u → (∀ ps, u ≠ .tbl ps) ∧ ∀ c q, u ≠ LamX.CodeO c q := fun u e => by rw [h] at e; cases e
theorem some_ne {xs : List V} (h : H p = some (.lst xs)) : ∀ u, H p = some u → (∀ ps, u ≠ .tbl ps) ∧ ∀ c q, u ≠ LamX.CodeO c q := fun u e => by rw [h] at e; cases e; exact lst_ne
theorem dk_ne {xs : List (Key × V)} : (∀ ps, HO.dK xs ≠ .tbl ps) ∧ ∀ c q, HO.dK xs ≠ LamX.CodeO c q := ⟨fun ps z => (by cases z), fun c q z => by unfold LamX.CodeO at z; cases z⟩
theorem some_nk {xs : List (Key × V)} (h : H p = some (.dK xs)) : ∀ u, H p = some u → (∀ ps, u ≠ .tbl ps) ∧ ∀ c q, u ≠ LamX.CodeO c q := fun u e => by rw [h] at e; cases e; exact dk_ne
theorem RS.priv (rs : RS K F ad S H) (hF : F p = none) (hl : ¬ Live S ad p) (hq : ∀ u, H p = some u → (∀ ps, u ≠ .tbl ps) ∧ ∀ c q, u ≠ LamX.CodeO c q) : RS K F ad S (upd H p o) := by
  refine ⟨fun a u e => ?_, fun n od e => ?_, rs.inj, tabs_priv rs.tab hq, rs.ntb⟩
  · have : a ≠ p := ne_of_none e hF
    rw [upd_ne this]; exact rs.sub a u e
  · obtain ⟨h1, u, h2, h3⟩ := rs.liv n od e
    have : ad n ≠ p := fun z => hl ⟨n, od, e, z⟩
    exact ⟨h1, u, by rw [upd_ne this]; exact h2, h3⟩
theorem Nx.priv {F' ad' S' H'} (x : Nx F ad S H F' ad' S' H') (hp : H p = none) : Nx F ad S H F' ad' S' (upd H' p o) := by
  refine ⟨x.fsub, x.fnew, x.len, x.adk, x.snew, fun a u e l t => ?_, fun a e => ?_⟩
  · rw [upd_ne (ne_of_none e hp)]; exact x.keep a u e l t
  · by_cases ha : a = p
    · subst ha; exact .inl hp
    · refine x.back a ?_; unfold Fr at e ⊢; rw [upd_ne ha] at e; exact e
/-- a step leaves a private object private -/
theorem Nx.still {F' ad' S' H'} (x : Nx F ad S H F' ad' S' H') (hH : H p = some o) (hF : F p = none) (hl : ¬ Live S ad p) (ho : ∀ ps, o ≠ .tbl ps) : H' p = some o ∧ F' p = none ∧ ¬ Live S' ad' p := by
  refine ⟨x.keep p o hH hl ho, ?_, fun h => ?_⟩
  · cases q : F' p with
    | none => rfl
    | some u =>
      rcases x.fnew p u q with h | h | h
      · rw [hF] at h; cases h
      · exact (fr_no hH ho h).elim
      · exact absurd h hl
  · rcases x.live_back h with h | h
    · exact hl h
    · exact fr_no hH ho h
/-- a private object becomes plain -/
theorem RS.adopt (rs : RS K F ad S H) (hH : H p = some o) (hF : F p = none) (hl : ¬ Live S ad p) (hn : ∀ ps, o ≠ .tbl ps := by intro ps z; cases z) : RS K (upd F p o) ad S H := by
  refine ⟨fun a u e => ?_, fun n od e => ?_, rs.inj, rs.tab, ntb_upd rs.ntb hn⟩
  · by_cases ha : a = p
    · subst ha; rw [upd_same] at e; rw [← e]; exact hH
    · rw [upd_ne ha] at e; exact rs.sub a u e
  · obtain ⟨h1, u, h2, h3⟩ := rs.liv n od e
    have hn : ad n ≠ p := fun z => hl ⟨n, od, e, z⟩
    exact ⟨by rw [upd_ne hn]; exact h1, u, h2, OR.mono (Gr.alloc hF) od u h3⟩
theorem Nx.adopt {F' ad' S' H'} (x : Nx F ad S H F' ad' S' H') (hp : H p = none) (hF : F' p = none) : Nx F ad S H (upd F' p o) ad' S' H' := by
  refine ⟨fun a u e => ?_, fun a u e => ?_, x.len, x.adk, x.snew, x.keep, x.back⟩
  · have h := x.fsub a u e
    rw [upd_ne (ne_of_none h hF)]; exact h
  · by_cases ha : a = p
    · subst ha; exact .inr (.inl (.inl hp))
    · rw [upd_ne ha] at e; exact x.fnew a u e
/-- .. or a thing of the store -/
theorem RS.enrol {od : OD} (rs : RS K F ad S H) (hH : H p = some o) (hF : F p = none) (hl : ¬ Live S ad p) (ho : OR K F ad S.length od o) : RS K F (adn ad S.length p) (S ++ [some od]) H := by
  have hlen : (S ++ [some od]).length = S.length + 1 := by simp
  refine ⟨rs.sub, fun n od' e => ?_, fun n m od1 od2 e1 e2 e => ?_, rs.tab, rs.ntb⟩
  · rw [hlen]
    rcases new_cases e with ⟨hn, e'⟩ | ⟨hn, e'⟩
    · rw [adn_ne (Nat.ne_of_lt hn)]
      obtain ⟨h1, u, h2, h3⟩ := rs.liv n od' e'
      exact ⟨h1, u, h2, OR.mono Gr.new od' u h3⟩
    · subst hn; subst e'
      rw [adn_same]
      exact ⟨hF, o, hH, OR.mono Gr.new _ o ho⟩
  · rcases new_cases e1 with ⟨hn, q1⟩ | ⟨hn, q1⟩ <;> rcases new_cases e2 with ⟨hm, q2⟩ | ⟨hm, q2⟩
    · rw [adn_ne (Nat.ne_of_lt hn), adn_ne (Nat.ne_of_lt hm)] at e
      exact rs.inj n m _ _ q1 q2 e
    · subst hm
      rw [adn_ne (Nat.ne_of_lt hn), adn_same] at e
      exact absurd ⟨n, _, q1, e⟩ hl
    · subst hn
      rw [adn_ne (Nat.ne_of_lt hm), adn_same] at e
      exact absurd ⟨m, _, q2, e.symm⟩ hl
    · omega
theorem Nx.enrol {F' ad' S' H'} {od : OD} (x : Nx F ad S H F' ad' S' H') (hp : H p = none) : Nx F ad S H F' (adn ad' S'.length p) (S' ++ [some od]) H' := by
  refine ⟨x.fsub, x.fnew, by rw [List.length_append]; exact Nat.le_trans x.len (Nat.le_add_right _ _), fun n h => ?_, fun n od' e => ?_, x.keep, x.back⟩
  · rw [adn_ne (Nat.ne_of_lt (Nat.lt_of_lt_of_le h x.len))]; exact x.adk n h
  · rcases new_cases e with ⟨hn, q⟩ | ⟨hn, q⟩
    · rw [adn_ne (Nat.ne_of_lt hn)]; exact x.snew n od' q
    · subst hn; rw [adn_same]; exact .inr (.inl hp)
end

/-! ### slots forgotten -/
def wipeE (env : Env) : List Nat → Env
  | [] => env
  | v :: vs => (wipeE env vs).set v none
theorem wipe_get {σ : L2.St} {j : Nat} : ∀ {vs : List Nat}, (j ∉ vs → (wipe σ vs)[j]? = σ[j]?) ∧ (j ∈ vs → j < σ.length → (wipe σ vs)[j]? = some none)
  | [] => ⟨fun _ => rfl, fun h => nomatch h⟩
  | v :: vs => by
    obtain ⟨h1, h2⟩ := wipe_get (σ := σ) (j := j) (vs := vs)
    refine ⟨fun h => ?_, fun h hl => ?_⟩
    · rw [List.mem_cons, not_or] at h
      show ((wipe σ vs).set v none)[j]? = _
      rw [List.getElem?_set_ne (Ne.symm h.1)]; exact h1 h.2
    · show ((wipe σ vs).set v none)[j]? = _
      by_cases e : v = j
      · subst e
        rw [List.getElem?_set_self (by rw [wipe_length]; exact hl)]
      · rw [List.getElem?_set_ne e]
        rcases List.mem_cons.mp h with q | q
        · exact absurd q.symm e
        · exact h2 q hl
theorem wipe_but {σ σ' : L2.St} {ws vs : List Nat} (b : But ws (wipe σ vs) σ') (hs : ∀ j ∈ ws, j ∈ vs) : wipe σ' vs = wipe σ vs := by
  have hl : σ'.length = σ.length := by rw [b.1, wipe_length]
  apply List.ext_getElem?
  intro j
  by_cases hj : j ∈ vs
  · by_cases hlt : j < σ.length
    · rw [wipe_get.2 hj (by rw [hl]; exact hlt), wipe_get.2 hj hlt]
    · rw [List.getElem?_eq_none (by rw [wipe_length, hl]; omega), List.getElem?_eq_none (by rw [wipe_length]; omega)]
  · rw [wipe_get.1 hj, b.2 j (fun z => hj (hs j z))]
theorem wipeE_some {env : Env} {j : Nat} {d : D} : ∀ {vs : List Nat}, (wipeE env vs)[j]? = some (some d) → env[j]? = some (some d) ∧ j ∉ vs
  | [], h => ⟨h, by simp⟩
  | v :: vs, h => by
    unfold wipeE at h
    by_cases hv : v = j
    · subst hv
      by_cases hl : v < (wipeE env vs).length
      · rw [List.getElem?_set_self hl] at h; cases h
      · rw [List.getElem?_eq_none (by simpa using hl)] at h; cases h
    · rw [List.getElem?_set_ne hv] at h
      obtain ⟨h1, h2⟩ := wipeE_some h
      exact ⟨h1, by rw [List.mem_cons, not_or]; exact ⟨fun e => hv e.symm, h2⟩⟩
theorem RE.wipe {K F ad L env σ} (re : RE K F ad L env σ) (vs : List Nat) : RE K F ad L (wipeE env vs) (L2.wipe σ vs) := fun i d e => by
  obtain ⟨h1, h2⟩ := wipeE_some e
  obtain ⟨v, h3, h4⟩ := re i d h1
  exact ⟨v, by rw [wipe_get.1 h2]; exact h3, h4⟩

theorem PE.weakI {X : Cx} {e : Expr} {t t' : TE} (h : PE X e t) (w : ∀ σ H Q, σ.length = X.N.length → t' σ H Q → t σ H Q) : PE X e t' := ⟨fun pins s σ H Q I q => h.run pins s σ H Q I (w _ _ _ I.len q)⟩

/-! ### comprehensions -/
/-- no error comes out of it -/
def bdN {α β : Type} (m : M α) (k : α → M β) : M β := fun S => match m S with
  | .ok a S' => k a S'
  | _ => .no
def compL (mk : List D → M D) (t : D → Env → Option Env) (c : Env → M Bool) (el : Env → M D) (env0 : Env) : List D → List D → M D
  | [], acc => mk acc
  | d :: ds, acc => match t d env0 with
    | none => mno
    | some env1 => bdN (c env1) fun b => if b = true then bdN (el env1) fun y => if acc.length < sizeLine then compL mk t c el env0 ds (acc ++ [y]) else mno else compL mk t c el env0 ds acc
def cmp (vs : List Nat) (mk : List D → M D) (m : Env → M (List D)) (t : D → Env → Option Env) (c : Env → M Bool) (el : Env → M D) : Env → M D := fun env => bd (m env) fun ds => compL mk t c el (wipeE env vs) ds []
/-- how the new list is kept: plain, or as a thing of the store -/
def KpOk (X : Cx) (mk : List D → M D) : Prop := ∀ (W : WX) (σ : L2.St) F0 ad0 S0 H0 F ad S H (Q : VK) (ds : List D) (vs : List V) (p : Addr), RS X.K F ad S H → DPs X.K F ad S.length ds vs → H p = some (.lst vs) → F p = none → ¬ Live S ad p → Nx F0 ad0 S0 H0 F ad S H → H0 p = none →
  Fin X W (DP X.K) σ F0 ad0 S0 H0 (mk ds S) Q → Q (.ref p) H
theorem kp_L {X : Cx} : KpOk X mkL := fun W σ F0 ad0 S0 H0 F ad S H Q ds vs p rs dp hH hF hl n hp h => by
  unfold mkL at h
  split at h
  case isFalse => exact h.elim
  exact h (.ref p) _ ad H (n.adopt hp hF) (rs.adopt hH hF hl) ⟨p, vs, rfl, upd_same, DPs.mono (Gr.alloc hF) ds vs dp⟩
theorem kp_N {X : Cx} : KpOk X mkN := fun W σ F0 ad0 S0 H0 F ad S H Q ds vs p rs dp hH hF hl n hp h => by
  unfold mkN at h
  split at h
  case isFalse => exact h.elim
  exact h (.ref p) F _ H (n.enrol hp) (rs.enrol hH hF hl ⟨vs, rfl, dp⟩) ⟨by simp, by rw [adn_same]⟩
theorem Fin.bdN {α β α' β' : Type} {X X' : Cx} {W W' : WX} {RR : Hp → (Nat → Addr) → Nat → α → β → Prop} {RR' : Hp → (Nat → Addr) → Nat → α' → β' → Prop} {m : M α} {k : α → M α'} {σ σ' : L2.St} {F0 ad0 S0 H0} {H : Hp} {Q : β' → Hp → Prop} {Q1 : β → Hp → Prop}
    {F : Hp} {ad : Nat → Addr} {S : Store} (hK : X'.K = X.K) (h : Fin X W RR' σ F0 ad0 S0 H0 (bdN m k S) Q)
    (hk : ∀ F1 ad1 S1 d v H1, Nx F ad S H F1 ad1 S1 H1 → RS X.K F1 ad1 S1 H1 → RR F1 ad1 S1.length d v → Fin X W RR' σ F0 ad0 S0 H0 (k d S1) Q → Q1 v H1) :
    Fin X' W' RR σ' F ad S H (m S) Q1 := by
  simp only [Fx.bdN] at h
  cases e : m S with
  | ok d S1 =>
    rw [e] at h
    exact fun v F1 ad1 H1 n1 r1 p1 => hk F1 ad1 S1 d v H1 n1 (by rw [← hK]; exact r1) p1 h
  | ex x S1 => rw [e] at h; exact h.elim
  | no => rw [e] at h; exact h.elim
abbrev W0 : WX := fun _ _ _ _ => False
section
variable {X : Cx} {W : WX} {pos : Pos}
/-- a target's reading -/
def gF (K : PySem.W.Frag) (n : Nat) (ws : List Nat) (t : D → Env → Option Env) : TG := fun v σ H Q => ∃ F ad S env d env', RS K F ad S H ∧ DP K F ad S.length d v ∧ RE K F ad S.length env σ ∧ σ.length = n ∧ t d env = some env' ∧
  ∀ σ', RE K F ad S.length env' σ' → But ws σ σ' → Q σ' H
theorem FG.pg {tg : Expr} {ws : List Nat} {t : D → Env → Option Env} (h : FG X tg ws t) : PG X tg (gF X.K X.N.length ws t) := by
  obtain ⟨r, hr, hq⟩ := h
  refine ⟨fun pins s σ H v u Q I rv q => ?_⟩
  obtain ⟨F, ad, S, env, d, env', rs, dp, re, hl, e, k⟩ := q
  exact hr.run pins s σ H v u Q I rv (hq d v env env' σ F ad S H Q rs dp re hl e k)
theorem lc_pre {tg iter : Expr} {scope : Scope} {own : List (Str × Nat)} {mk : List D → M D} {it : Env → M (List D)} {ws : List Nat} {t : D → Env → Option Env} {c : Env → M Bool} {el : Env → M D} {wi : TI}
    (hmk : KpOk X mk) (hws : ∀ j ∈ ws, j ∈ own.map (·.2))
    (hwi : ∀ σ H (R : It → Hp → Prop) F ad env S, RE X.K F ad S.length env σ → RS X.K F ad S H → Fin X W (ItOk X) σ F ad S H (it env S) R → wi σ H R)
    {σ : L2.St} {F ad env S H} {Q : VK} (hl : σ.length = X.N.length) (re : RE X.K F ad S.length env σ) (rs : RS X.K F ad S H)
    (h : Fin X W (DP X.K) σ F ad S H (cmp (own.map (·.2)) mk it t c el env S) Q) : tLc wi (gF X.K X.N.length ws t) (tB X W0 c) (tF X W0 el) (own.map (·.2)) σ H Q := by
  refine hwi σ H _ F ad env S re rs (Fin.seq re h fun F1 ad1 S1 ds J H1 n1 re1 rs1 it1 h1 => fun Da hDa => ?_)
  have nl1 : ¬ Live S1 ad1 Da := fun ⟨n, od, e, z⟩ => by
    obtain ⟨_, u, h2, _⟩ := rs1.liv n od e
    rw [z, hDa] at h2; cases h2
  let Nt : Nat → Hp → Prop := fun i H' => i ≤ ds.length ∧ ∃ F' ad' S' acc vs, Nx F1 ad1 S1 H1 F' ad' S' H' ∧ RS X.K F' ad' S' H' ∧ H' Da = some (.lst vs) ∧ DPs X.K F' ad' S'.length acc vs ∧ F' Da = none ∧ ¬ Live S' ad' Da ∧
    Fin X W (DP X.K) σ F1 ad1 S1 H1 (compL mk t c el (wipeE env (own.map (·.2))) (ds.drop i) acc S') Q
  refine ⟨fun i k H' => k = ds.length - i ∧ Nt i H', ⟨ds.length, by simp, Nat.zero_le _, F1, ad1, S1, [], [], .priv .refl hDa, rs1.priv (F_none rs1 hDa) nl1 (none_ne hDa), upd_same, rfl, F_none rs1 hDa, nl1, by simpa using h1⟩, ?_⟩
  rintro i k H' ⟨rfl, hi, F', ad', S', acc, vs, n', rs', hH, dacc, hF, nl, h'⟩
  obtain ⟨itg, its⟩ := it1 F' ad' S' H' n'.gr rs' i
  by_cases hlt : i < ds.length
  · obtain ⟨jg, jy⟩ := itg ds[i] (by simp [hlt])
    rw [show ds.drop i = ds[i] :: ds.drop (i + 1) by rw [List.drop_eq_getElem_cons hlt]] at h'
    refine .inr ⟨jg, Nt (i + 1), fun H2 q => ⟨ds.length - (i + 1), by omega, rfl, q⟩, fun x H'' y => ?_⟩
    obtain ⟨Fy, ady, ny, rsy, dx⟩ := jy x H'' y
    obtain ⟨kk1, kk2, kk3⟩ := ny.still hH hF nl lst_ne.1
    have hH := kk1
    have hF := kk2
    have nl := kk3
    have n' := n'.trans ny
    have dacc := DPs.mono ny.gr _ _ dacc
    unfold compL at h'
    cases e1 : t ds[i] (wipeE env (own.map (·.2))) with
    | none => simp only [e1] at h'; exact h'.elim
    | some env1 =>
      simp only [e1] at h'
      refine ⟨Fy, ady, S', _, ds[i], env1, rsy, dx, (re1.mono n'.gr).wipe _, by rw [wipe_length]; exact hl, e1, fun σ2 re2 b2 => ⟨wipe_but b2 hws, ?_⟩⟩
      refine ⟨Fy, ady, env1, S', re2, rsy, Fin.bdN rfl h' fun F2 ad2 S2 b b' H2 n2 rs2 eb h2 => ?_⟩
      subst eb
      obtain ⟨k1, k2, k3⟩ := n2.still hH hF nl lst_ne.1
      cases b with
      | false => exact iteF ⟨hlt, F2, ad2, S2, acc, vs, n'.trans n2, rs2, k1, DPs.mono n2.gr _ _ dacc, k2, k3, by simpa using h2⟩
      | true =>
        refine iteT ⟨F2, ad2, env1, S2, re2.mono n2.gr, rs2, Fin.bdN rfl (show Fin X W (DP X.K) σ F1 ad1 S1 H1 (Fx.bdN (el env1) _ S2) Q by simpa using h2) fun F3 ad3 S3 yd yv H3 n3 rs3 dp3 h3 => ?_⟩
        split at h3
        case isFalse => exact h3.elim
        rename_i c3
        obtain ⟨l1, l2, l3⟩ := n3.still k1 k2 k3 lst_ne.1
        refine ⟨vs, l1, by rw [← dacc.length]; exact c3, hlt, F3, ad3, S3, acc ++ [yd], vs ++ [yv], .priv (n'.trans (n2.trans n3)) hDa, rs3.priv l2 l3 (some_ne l1), upd_same, ?_, l2, l3, h3⟩
        exact (DPs.mono (n2.trans n3).gr _ _ dacc).append (DPs.one dp3)
  · have e : i = ds.length := by omega
    subst e
    rw [List.drop_length] at h'
    exact .inl ⟨its (Nat.le_refl _), hmk W σ F1 ad1 S1 H1 F' ad' S' H' Q acc vs Da rs' dacc hH hF nl n' hDa h'⟩
theorem fe_lc {elt tg iter : Expr} {ifs : List Expr} {scope : Scope} {own : List (Str × Nat)} {mk : List D → M D} {it : Env → M (List D)} {ws : List Nat} {t : D → Env → Option Env} {c : Env → M Bool} {el : Env → M D}
    (hmk : KpOk X mk) (hc : X.calm = true) (hN : X.N.Nodup) (hi : FI X W tg iter it) (ok : BlkOk X.N X.env.scope scope own) (hws : ∀ j ∈ ws, j ∈ own.map (·.2))
    (hg : ∀ (s : Shared) (H : Hp) (C : Addr) (cl : List (Str × Addr)) (fp : List Addr), FG (X.blk s H scope (compEnvC scope cl C X.env) fp) tg ws t)
    (ht : ∀ (s : Shared) (H : Hp) (C : Addr) (cl : List (Str × Addr)) (fp : List Addr), PTs (X.blk s H scope (compEnvC scope cl C X.env) fp) ifs (tB X W0 c))
    (he : ∀ (s : Shared) (H : Hp) (C : Addr) (cl : List (Str × Addr)) (fp : List Addr), FE (X.blk s H scope (compEnvC scope cl C X.env) fp) W0 elt el)
    (hs : ∀ x, foldedSetIterable iter X.env x = pure x := by intro _; rfl) :
    FE X W (.ListComp elt [⟨tg, iter, ifs, 0⟩] scope pos) (cmp (own.map (·.2)) mk it t c el) := by
  obtain ⟨wi, pi, hwi⟩ := hi
  refine ⟨PE.weakI (pe_lc (own := own) (g := gF X.K X.N.length ws t) (tt := tB X W0 c) (te := tF X W0 el) hc hN pi ok (fun s H C cl fp => (hg s H C cl fp).pg) ht (fun s H C cl fp => (he s H C cl fp).run) hs) fun σ H Q hl ⟨F, ad, env, S, re, rs, h⟩ => ?_⟩
  exact lc_pre (scope := scope) (tg := tg) (iter := iter) hmk hws hwi hl re rs h
/-- y = [..] on one line, y a local -/
theorem fs_setLc {i : Nat} {y : Str} {py spos : Pos} {elt tg iter : Expr} {ifs : List Expr} {scope : Scope} {own : List (Str × Nat)} {mk : List D → M D} {it : Env → M (List D)} {ws : List Nat} {t : D → Env → Option Env} {c : Env → M Bool} {el : Env → M D}
    (hy : X.N[i]? = some y) (hyl : X.env.scope.names.lookup y = some .local)
    (hk : X.env.scope.kind = .function) (hln : (py.line == pos.line) = true) (ha : (scope.names.any fun (n, k) => n == y && (k == .local || k == .cell)) = false)
    (hmk : KpOk X mk) (hc : X.calm = true) (hN : X.N.Nodup) (hi : FI X W tg iter it) (ok : BlkOk X.N X.env.scope scope own) (hws : ∀ j ∈ ws, j ∈ own.map (·.2))
    (hg : ∀ (s : Shared) (H : Hp) (C : Addr) (cl : List (Str × Addr)) (fp : List Addr), FG (X.blk s H scope (compEnvC scope cl C X.env) fp) tg ws t)
    (ht : ∀ (s : Shared) (H : Hp) (C : Addr) (cl : List (Str × Addr)) (fp : List Addr), PTs (X.blk s H scope (compEnvC scope cl C X.env) fp) ifs (tB X W0 c))
    (he : ∀ (s : Shared) (H : Hp) (C : Addr) (cl : List (Str × Addr)) (fp : List Addr), FE (X.blk s H scope (compEnvC scope cl C X.env) fp) W0 elt el)
    (hs : ∀ x, foldedSetIterable iter X.env x = pure x := by intro _; rfl) :
    FS X W (.Assign [.Name y py] (.ListComp elt [⟨tg, iter, ifs, 0⟩] scope pos) spos) (set i (cmp (own.map (·.2)) mk it t c el)) := by
  obtain ⟨wi, pi, hwi⟩ := hi
  refine ⟨PS.weakI (ps_setLc (own := own) (g := gF X.K X.N.length ws t) (tt := tB X W0 c) (te := tF X W0 el) hc hN hy hyl (sw_true hk hyl hln ha) pi ok (fun s H C cl fp => (hg s H C cl fp).pg) ht (fun s H C cl fp => (he s H C cl fp).run) hs) fun D σ H hl ⟨F, ad, env, S, re, rs, h⟩ => ?_⟩
  have hil : i < σ.length := by rw [hl]; exact lt_of_some hy
  exact lc_pre (scope := scope) (tg := tg) (iter := iter) hmk hws hwi hl re rs (FinS.seqE re hl h fun F1 ad1 S1 d v H1 n1 re1 rs1 dp1 h1 => h1 _ F1 ad1 H1 .refl rs1 (re1.set dp1 hil) (by rw [List.length_set]; exact hl))
theorem pts_no {Y : Cx} (hK : Y.K = X.K) : PTs Y [] (tB X W0 (fun _ => pur true)) := ⟨fun pins s σ H Q I h => pts_nil.run pins s σ H Q I (by
  obtain ⟨F, ad, env, S, re, rs, h⟩ := h
  exact Fin.pure (d := true) rs h rfl)⟩
theorem pts_if {Y : Cx} {e : Expr} {c : Env → M Bool} (h : FT Y W0 e c) (hB : tB Y W0 c = tB X W0 c := by rfl) : PTs Y [e] (tB X W0 c) := by
  rw [← hB]
  exact pts_one h.run
end
end Fx

end
/-! ## Fx5 -/
section
namespace Fx
open PySem PySem.Spec PyProof.Rows L2
variable [tb : Tabl]

/-! ### built-ins -/
def CallF (X : Cx) (f : Value) (g : List D → M D) : Prop :=
  ∃ r, CallR X f r ∧ ∀ (W : WX) (σ : L2.St) F ad S H ds vs (Q : VK), RS X.K F ad S H → DPs X.K F ad S.length ds vs → Fin X W (DP X.K) σ F ad S H (g ds S) Q → r vs H Q
def cal (t : Env → M (List D)) (g : List D → M D) : Env → M D := fun env => bd (t env) g
section
variable {X : Cx} {W : WX} {pos p : Pos} {e : Expr} {es : List Expr} {f : Env → M D} {t : Env → M (List D)} {g : List D → M D}
theorem fe_callB {id : String} {x : Str} (hc : CallF X (.builtin id) g) (hg : Gl X x) (hm : X.mg x = none) (hv : bootBuiltins x = some (.builtin id)) (ha : FA X W (e :: es) t) (hn : x ≠ "__name__" := by decide)
    (hdb : (x == ("__debug__" : Str)) = false := by decide) (he : starEach (e :: es) X.env = (false, eval e X.env) :: starEach es X.env := by rfl) (hpl : (backTo pos (starEach es X.env)).any (·.1) = false := by rfl) :
    FE X W (.Call (.Name x p) (e :: es) [] pos) (cal t g) := by
  obtain ⟨r, hr, hq⟩ := hc
  exact ⟨PE.weak (pe_callB hr hg hm hv ha.run hn hdb he hpl) fun σ H Q ⟨F, ad, env, S, re, rs, h⟩ => ⟨F, ad, env, S, re, rs, Fin.seq re h fun F1 ad1 S1 d v H1 n1 re1 rs1 dp1 h1 => hq W σ F1 ad1 S1 H1 d v Q rs1 dp1 h1⟩⟩
theorem fe_callT {T : String} {x : Str} (hc : CallF X (.type T) g) (hg : Gl X x) (hm : X.mg x = none) (hv : bootBuiltins x = some (.type T)) (ha : FA X W (e :: es) t) (hn : x ≠ "__name__" := by decide)
    (hdb : (x == ("__debug__" : Str)) = false := by decide) (he : starEach (e :: es) X.env = (false, eval e X.env) :: starEach es X.env := by rfl) (hpl : (backTo pos (starEach es X.env)).any (·.1) = false := by rfl) :
    FE X W (.Call (.Name x p) (e :: es) [] pos) (cal t g) := by
  obtain ⟨r, hr, hq⟩ := hc
  exact ⟨PE.weak (pe_callTy hr hg hm hv ha.run hn hdb he hpl) fun σ H Q ⟨F, ad, env, S, re, rs, h⟩ => ⟨F, ad, env, S, re, rs, Fin.seq re h fun F1 ad1 S1 d v H1 n1 re1 rs1 dp1 h1 => hq W σ F1 ad1 S1 H1 d v Q rs1 dp1 h1⟩⟩
/-! ### isinstance -/
def tyM : D → M String
  | .non => pur "NoneType"
  | .bl _ => pur "bool"
  | .int _ => pur "int"
  | .str _ => pur "str"
  | .lst _ => pur "list"
  | .tup _ => pur "tuple"
  | .scr _ => mno
  | .err .. => mno
  | .utp _ => mno
  | .obj n => fun S => match S[n]? with
    | some (some (.lst _)) => .ok "list" S
    | some (some (.dct _)) => .ok "dict" S
    | _ => .no
theorem tyM_ex {d : D} {x : Ex} {S S' : Store} (h : tyM d S = .ex x S') : False := by
  cases d <;> simp [tyM, pur, mno] at h
  split at h <;> cases h
theorem tyM_at {F ad S H} {d : D} {v : V} {T : String} {S' : Store} (rs : RS X.K F ad S H) (dp : DP X.K F ad S.length d v) (h : tyM d S = .ok T S') : S' = S ∧ TyX X.K H v (.type T) := by
  cases d with
  | non => cases dp; cases h; exact ⟨rfl, .base .non⟩
  | bl b => cases dp; cases h; exact ⟨rfl, .base (.bl b)⟩
  | int b => cases dp; cases h; exact ⟨rfl, .base (.int b)⟩
  | str b => cases dp; cases h; exact ⟨rfl, .base (.str b)⟩
  | scr _ => cases h
  | err a dd ns ds => cases h
  | utp _ => cases h
  | lst xs =>
    obtain ⟨a, vs, rfl, h1, _⟩ := dp
    cases h; exact ⟨rfl, .base (.lst (rs.sub _ _ h1))⟩
  | tup xs =>
    obtain ⟨a, vs, rfl, h1, _⟩ := dp
    cases h
    refine ⟨rfl, ?_⟩
    rcases h1 with ⟨o, h1, _⟩ | ⟨o, its, n, h1, h2, _⟩
    · exact .fTuple (rs.sub _ _ h1)
    · exact .kTuple h1 h2
  | obj n =>
    obtain ⟨hn, rfl⟩ := dp
    simp only [tyM] at h
    split at h
    · rename_i ys q
      cases h
      obtain ⟨h1, o, h2, vs, h3, h4⟩ := rs.liv n _ q
      subst h3
      exact ⟨rfl, .base (.lst h2)⟩
    · rename_i ys q
      cases h
      obtain ⟨h1, o, h2, vs, h3, h4⟩ := rs.liv n _ q
      subst h3
      exact ⟨rfl, .base (.dK h2)⟩
    · cases h
def isT (a T : String) : Bool := a == T || (a == "bool" && T == "int")
theorem kit_all : ∀ a ∈ ["NoneType", "bool", "int", "str", "list", "tuple", "dict"], ∀ T ∈ ["int", "bool", "str", "tuple", "list", "dict"], kitB a T = some (isT a T) := by decide +kernel
theorem tyM_in {d : D} {T : String} {S S' : Store} (h : tyM d S = .ok T S') : T ∈ ["NoneType", "bool", "int", "str", "list", "tuple", "dict"] := by
  cases d with
  | scr _ => cases h
  | err a dd ns ds => cases h
  | utp _ => cases h
  | obj n =>
    simp only [tyM] at h
    split at h
    · cases h; decide
    · cases h; decide
    · cases h
  | _ => (cases h; decide)
def isi (T : String) (f : Env → M D) : Env → M D := fun env => bd (f env) fun d => bd (tyM d) fun a => pur (.bl (isT a T))
theorem fe_isi {T : String} {x tn : Str} {p2 : Pos} (hx : x = "isinstance") (hT : T ∈ ["int", "bool", "str", "tuple", "list", "dict"]) (hg : Gl X x) (hm : X.mg x = none) (hg2 : Gl X tn) (hm2 : X.mg tn = none) (hv2 : bootBuiltins tn = some (.type T)) (hv : bootBuiltins x = some (.builtin "isinstance"))
    (ha : FE X W e f) (hn2 : tn ≠ "__name__" := by decide) (hdb2 : (tn == ("__debug__" : Str)) = false := by decide)
    (he1 : starEach [e, .Name tn p2] X.env = (false, eval e X.env) :: starEach [.Name tn p2] X.env := by rfl) (he2 : starEach [.Name tn p2] X.env = (false, eval (.Name tn p2) X.env) :: starEach [] X.env := by rfl)
    (hpl : (backTo pos (starEach [.Name tn p2] X.env)).any (·.1) = false := by rfl) :
    FE X W (.Call (.Name x p) [e, .Name tn p2] [] pos) (isi T f) := by
  have P1 : PE X (.Name tn p2) (tC (.ty T)) := pe_bltn hg2 hm2 hv2 rfl hn2 hdb2
  refine ⟨PE.weak (pe_callB call_isi hg hm hv (pa_cons ha.run (pa_cons P1 pa_nil he2) he1) (by rw [hx]; decide) (by rw [hx]; decide) he1 hpl) fun σ H Q ⟨F, ad, env, S, re, rs, h⟩ => ?_⟩
  refine ⟨F, ad, env, S, re, rs, Fin.seq re h fun F1 ad1 S1 d v H1 n1 re1 rs1 dp1 h1 => ?_⟩
  obtain ⟨a, S2, e1, h1⟩ := Fin.look h1 fun _ _ => tyM_ex
  have hin := tyM_in e1
  obtain ⟨rfl, ty⟩ := tyM_at rs1 dp1 e1
  exact ⟨v, .ty T, .type a, .type T, isT a T, rfl, .ty T, ty, kit_ty (kit_all a hin T hT), Fin.pure rs1 h1 rfl⟩

/-! ### len, all, any -/
def lenD : List D → M D
  | [.str x] => if x.length ≤ sizeLine then pur (.int x.length) else mno
  | [.obj n] => fun S => match S[n]? with
    | some (some (.lst xs)) => .ok (.int xs.length) S
    | some (some (.dct xs)) => .ok (.int xs.length) S
    | _ => .no
  | [.lst xs] => pur (.int xs.length)
  | [.tup xs] => pur (.int xs.length)
  | [.scr xs] => pur (.int xs.length)
  | _ => mno
theorem DPk.length {K F ad L} : ∀ {ds : List (Key × D)} {vs : List (Key × V)}, DPk K F ad L ds vs → ds.length = vs.length
  | [], _, h => by cases h; rfl
  | (k, d) :: ds, _, ⟨v, r, e, _, h⟩ => by cases e; simp [DPk.length h]
theorem DPs.one_inv {K F ad L} {d : D} {vs : List V} (h : DPs K F ad L [d] vs) : ∃ v, vs = [v] ∧ DP K F ad L d v := by
  obtain ⟨v, r, e, h1, h2⟩ := h
  cases h2
  exact ⟨v, e, h1⟩
theorem cf_len : CallF X (.builtin "len") lenD := by
  refine ⟨_, call_len_seq.or (call_len_str.or call_lenD), fun W σ F ad S H ds vs Q rs dp h => ?_⟩
  unfold lenD at h
  split at h
  · obtain ⟨v, rfl, d1⟩ := dp.one_inv
    split at h
    · rename_i c
      cases d1
      exact .inr (.inl ⟨_, rfl, c, Fin.pure rs h rfl⟩)
    · exact h.elim
  · obtain ⟨v, rfl, hn, rfl⟩ := dp.one_inv
    split at h
    · rename_i xs q
      obtain ⟨h1, o, h2, vs, h3, h4⟩ := rs.liv _ _ q
      subst h3
      exact .inl ⟨_, vs, rfl, .inl (SqL.of h2), by rw [← h4.length]; exact Fin.pure rs h rfl⟩
    · rename_i xs q
      obtain ⟨h1, o, h2, vs, h3, h4⟩ := rs.liv _ _ q
      subst h3
      exact .inr (.inr ⟨_, vs, rfl, h2, by rw [← h4.length]; exact Fin.pure rs h rfl⟩)
    · exact h.elim
  · obtain ⟨v, rfl, a, us, rfl, h1, h2⟩ := dp.one_inv
    exact .inl ⟨a, us, rfl, .inl (SqL.of (rs.sub _ _ h1)), by rw [← h2.length]; exact Fin.pure rs h rfl⟩
  · obtain ⟨v, rfl, a, us, rfl, h1, h2⟩ := dp.one_inv
    exact .inl ⟨a, us, rfl, .inr (sqT_mono rs.sub h1.sq), by rw [← h2.length]; exact Fin.pure rs h rfl⟩
  · obtain ⟨v, rfl, a, rfl, h1⟩ := dp.one_inv
    exact .inl ⟨a, _, rfl, .inl (sqL_mono rs.sub h1), by rw [List.length_map]; exact Fin.pure rs h rfl⟩
  · exact h.elim
def blsOf : List D → Option (List Bool)
  | [] => some []
  | .bl b :: ds => match blsOf ds with
    | some bs => some (b :: bs)
    | none => none
  | _ => none
theorem blsOf_at {K F ad L} : ∀ {ds : List D} {vs : List V} {bs : List Bool}, DPs K F ad L ds vs → blsOf ds = some bs → vs = bs.map V.bl
  | [], _, _, h, e => by cases h; cases e; rfl
  | d :: ds, _, _, ⟨v, r, e1, h1, h2⟩, e => by
    cases d <;> simp only [blsOf] at e <;> first
      | (cases e; done)
      | skip
    split at e
    · rename_i bs q
      cases e
      cases h1
      rw [e1, blsOf_at h2 q]
      rfl
    · cases e
def allD : List D → M D
  | [d] => bd (seqL d) fun xs => bd (opt (blsOf xs)) fun bs => pur (.bl (bs.all id))
  | _ => mno
def anyD : List D → M D
  | [d] => bd (seqL d) fun xs => bd (opt (blsOf xs)) fun bs => pur (.bl (bs.any id))
  | _ => mno
theorem cf_all (hc : X.calm = true) : CallF X (.builtin "all") allD := by
  refine ⟨_, cr_all hc, fun W σ F ad S H ds vs Q rs dp h => ?_⟩
  unfold allD at h
  split at h
  · obtain ⟨v, rfl, d1⟩ := dp.one_inv
    obtain ⟨xs, S1, e1, h⟩ := Fin.look h fun _ _ => seqL_ex
    obtain ⟨rfl, a, us, rfl, h1, h2⟩ := seqL_at rs d1 e1
    obtain ⟨bs, S2, e2, h⟩ := Fin.look h fun _ _ => opt_ex
    obtain ⟨rfl, e3⟩ := opt_ok e2
    have := blsOf_at h2 e3
    subst this
    exact ⟨a, bs, rfl, h1, Fin.pure rs h rfl⟩
  · exact h.elim
theorem cf_any (hc : X.calm = true) : CallF X (.builtin "any") anyD := by
  refine ⟨_, cr_any hc, fun W σ F ad S H ds vs Q rs dp h => ?_⟩
  unfold anyD at h
  split at h
  · obtain ⟨v, rfl, d1⟩ := dp.one_inv
    obtain ⟨xs, S1, e1, h⟩ := Fin.look h fun _ _ => seqL_ex
    obtain ⟨rfl, a, us, rfl, h1, h2⟩ := seqL_at rs d1 e1
    obtain ⟨bs, S2, e2, h⟩ := Fin.look h fun _ _ => opt_ex
    obtain ⟨rfl, e3⟩ := opt_ok e2
    have := blsOf_at h2 e3
    subst this
    exact ⟨a, bs, rfl, h1, Fin.pure rs h rfl⟩
  · exact h.elim
/-! ### int, str, ord, list, tuple -/
def intD : List D → M D
  | [.int i] => pur (.int i)
  | [.bl b] => pur (.int (if b then 1 else 0))
  | _ => mno
theorem cf_int : CallF X (.type "int") intD := by
  refine ⟨_, call_int1, fun W σ F ad S H ds vs Q rs dp h => ?_⟩
  unfold intD at h
  split at h
  · obtain ⟨v, rfl, d1⟩ := dp.one_inv
    cases d1
    exact .inl ⟨_, rfl, Fin.pure rs h rfl⟩
  · obtain ⟨v, rfl, d1⟩ := dp.one_inv
    cases d1
    exact .inr ⟨_, rfl, Fin.pure rs h rfl⟩
  · exact h.elim
theorem call_str_bool : CallR X (.type "str") (fun xs H Q => ∃ b, xs = [.bl b] ∧ Q (.str (if b then "True" else "False")) H) := by
  intro pins s σ H xs us Q I r h
  obtain ⟨b, rfl, q⟩ := h
  obtain ⟨u, rfl, ru⟩ := vals1 r
  cases ru
  exact PySem.P.str_of_bool ⟨.str (if b then "True" else "False"), H, I.tok _, ⟨_, rfl⟩, q⟩
def strD : List D → M D
  | [.int i] => if i.natAbs.log2 < 1920 then pur (.str (toString i)) else mno
  | [.bl b] => pur (.str (if b then "True" else "False"))
  | _ => mno
theorem cf_str : CallF X (.type "str") strD := by
  refine ⟨_, call_str_int.or call_str_bool, fun W σ F ad S H ds vs Q rs dp h => ?_⟩
  unfold strD at h
  split at h
  · obtain ⟨v, rfl, d1⟩ := dp.one_inv
    cases d1
    split at h
    · rename_i c
      exact .inl ⟨_, rfl, c, Fin.pure rs h rfl⟩
    · exact h.elim
  · obtain ⟨v, rfl, d1⟩ := dp.one_inv
    cases d1
    exact .inr ⟨_, rfl, Fin.pure rs h rfl⟩
  · exact h.elim
def ordD : List D → M D
  | [.str x] => if x.length = 1 then pur (.int (x.cps.getD 0 0 : Nat)) else mno
  | _ => mno
theorem cf_ord : CallF X (.builtin "ord") ordD := by
  refine ⟨_, call_ord, fun W σ F ad S H ds vs Q rs dp h => ?_⟩
  unfold ordD at h
  split at h
  · obtain ⟨v, rfl, d1⟩ := dp.one_inv
    cases d1
    split at h
    · rename_i c
      exact ⟨_, rfl, c, Fin.pure rs h rfl⟩
    · exact h.elim
  · exact h.elim
def listD (mk : List D → M D) : List D → M D
  | [d] => bd (seqLT d) mk
  | _ => mno
theorem cf_list {mk : List D → M D} (hm : MkOk X mk) : CallF X (.type "list") (listD mk) := by
  refine ⟨_, call_list_of, fun W σ F ad S H ds vs Q rs dp h => ?_⟩
  unfold listD at h
  split at h
  · obtain ⟨v, rfl, d1⟩ := dp.one_inv
    obtain ⟨xs, S1, e1, h⟩ := Fin.look h fun _ _ => seqLT_ex
    obtain ⟨rfl, a, us, rfl, h1, h2⟩ := seqLT_at rs d1 e1
    exact ⟨a, us, rfl, h1, (hm W σ F ad _ H Q _ _ rs h2 h).2⟩
  · exact h.elim
def tupleD : List D → M D
  | [.tup xs] => pur (.tup xs)
  | [d] => bd (seqL d) mkT
  | _ => mno
theorem call_tuple_ofC : CallR X (.type "tuple") (fun xs H Q => ∃ p ys, xs = [.ref p] ∧ ((SqL X.K H p ys ∧ ∀ (l : Addr) (o : Obj), H l = none → o.dict = none → Q (.ref l) (upd H l (.frz o (.tup ys)))) ∨ (SqT X.K H p ys ∧ Q (.ref p) H))) := by
  intro pins s σ H xs us Q I r h
  obtain ⟨p, ys, rfl, h⟩ := h
  rcases h with ⟨hq, q⟩ | ⟨hq, q⟩
  · obtain ⟨u, rfl, rx⟩ := vals1 r
    cases rx
    obtain ⟨its, r', pl, hz⟩ := I.list hq
    have hlen := r'.length
    refine call_tuple_list pl.isList (fun h' kp => ?_) (by simp only [List.size_toArray] <;> omega)
    have I1 : Inv X pins σ H { s with heap := h' } := I.kept (t' := s.toks) kp
    have I2 : Inv X pins σ (upd H h'.objs.size (.frz { cls := .type "tuple", data := .seq its.toArray } (.tup ys))) { s with heap := h'.push { cls := .type "tuple", data := .seq its.toArray } } :=
      I1.laid (t' := s.toks) (fun b o e => Heap.get?_push_of_some _ e) (Nat.le_refl _) (show ObjOk X.prog X.w _ _ _ (.frz _ (.tup ys)) from ⟨Heap.get?_push_size _ rfl, hz, its, r', IsTup.new _ _⟩)
    exact ⟨.ref h'.objs.size, _, I2, rfl, q _ _ (I1.hok.fresh (Nat.le_refl _)) rfl⟩
  · exact call_tuple_of pins s σ H _ us Q I r ⟨p, ys, rfl, .inr ⟨hq, q⟩⟩
theorem cf_tuple : CallF X (.type "tuple") tupleD := by
  refine ⟨_, call_tuple_ofC, fun W σ F ad S H ds vs Q rs dp h => ?_⟩
  unfold tupleD at h
  split at h
  · obtain ⟨v, rfl, a, us, rfl, h1, h2⟩ := dp.one_inv
    exact ⟨a, us, rfl, .inr ⟨sqT_mono rs.sub h1.sq, Fin.pure rs h ⟨a, us, rfl, h1, h2⟩⟩⟩
  · obtain ⟨v, rfl, d1⟩ := dp.one_inv
    obtain ⟨xs, S1, e1, h⟩ := Fin.look h fun _ _ => seqL_ex
    obtain ⟨rfl, a, us, rfl, h1, h2⟩ := seqL_at rs d1 e1
    exact ⟨a, us, rfl, .inl ⟨h1, (fin_mkT rs h2 h).2⟩⟩
  · exact h.elim
end
end Fx

end
/-! ## Fx6 -/
section
namespace Fx
open PySem PySem.Spec PyProof.Rows L2
variable [tb : Tabl]

/-! ### items -/
theorem DPs.atI {K F ad L} {ds : List D} {vs : List V} {i : Int} {d : D} (h : DPs K F ad L ds vs) (e : L2.atI ds i = some d) : ∃ v, L2.atI vs i = some v ∧ DP K F ad L d v := by
  unfold L2.atI at e ⊢
  rw [← h.length]
  cases q : ixN ds.length i with
  | none => rw [q] at e; cases e
  | some j =>
    rw [q] at e
    obtain ⟨v, h1, h2⟩ := h.at e
    exact ⟨v, h1, h2⟩
def IxF (X : Cx) (g : D → D → M D) : Prop := ∃ r, IxR X r ∧ ∀ (W : WX) (σ : L2.St) F ad S H x y v w (Q : VK), RS X.K F ad S H → DP X.K F ad S.length x v → DP X.K F ad S.length y w → Fin X W (DP X.K) σ F ad S H (g x y S) Q → r v w H Q
def ixD (x y : D) : M D := match y with
  | .int i => match x with
    | .str z => if z.length ≤ sizeLine then bd (opt (atI z.cps.toList i)) fun c => pur (.str ⟨#[c]⟩) else mno
    | x => bd (seqLT x) fun ds => opt (atI ds i)
  | _ => mno
section
variable {X : Cx} {W : WX} {pos p : Pos} {e a b : Expr} {es : List Expr} {f f1 f2 : Env → M D} {t : Env → M (List D)}
theorem ix_core {σ : L2.St} {F ad S H} {x : D} {i : Int} {v w : V} {Q : VK} (rs : RS X.K F ad S H) (dx : DP X.K F ad S.length x v) (dy : DP X.K F ad S.length (.int i) w)
    (h : Fin X W (DP X.K) σ F ad S H ((bd (seqLT x) fun ds => opt (atI ds i)) S) Q) : rIxL X.K v w H Q ∨ rIxT X.K v w H Q := by
  obtain ⟨ds, S1, e1, h⟩ := Fin.look h fun _ _ => seqLT_ex
  obtain ⟨rfl, a, us, rfl, h1, h2⟩ := seqLT_at rs dx e1
  cases q : atI ds i with
  | none => rw [q] at h; exact h.elim
  | some d =>
    rw [q] at h
    obtain ⟨u, e2, d2⟩ := h2.atI q
    cases dy
    rcases h1 with h1 | h1
    · exact .inl ⟨a, us, i, u, rfl, rfl, h1, e2, Fin.pure rs h d2⟩
    · exact .inr ⟨a, us, i, u, rfl, rfl, h1, e2, Fin.pure rs h d2⟩
theorem if_ix : IxF X ixD := by
  refine ⟨_, ix_list.or (ix_tup.or ix_str), fun W σ F ad S H x y v w Q rs dx dy h => ?_⟩
  cases y with
  | int i =>
    cases x with
    | str z =>
      have h : Fin X W (DP X.K) σ F ad S H ((if z.length ≤ sizeLine then bd (opt (atI z.cps.toList i)) fun c => pur (.str ⟨#[c]⟩) else mno : M D) S) Q := h
      split at h
      · rename_i c
        obtain ⟨u, S1, e1, h⟩ := Fin.look h fun _ _ => opt_ex
        obtain ⟨rfl, e2⟩ := opt_ok e1
        cases dx; cases dy
        exact .inr (.inr ⟨z, i, u, rfl, rfl, c, e2, Fin.pure rs h rfl⟩)
      · exact h.elim
    | _ =>
      simp only [ixD] at h
      rcases ix_core rs dx dy h with q | q
      · exact .inl q
      · exact .inr (.inl q)
  | _ => exact h.elim
theorem fe_ix (ha : FE X W a f1) (hb : FE X W b f2) (hs : PlainIx b) : FE X W (.Subscript a b pos) (bin ixD f1 f2) := by
  obtain ⟨r, hr, hg⟩ := if_ix (X := X)
  exact ⟨PE.weak (pe_ix hr ha.run hb.run hs) fun σ H Q h => seq2 hg h⟩

/-! ### slices -/
structure FO (X : Cx) (W : WX) (e : Option Expr) (f : Env → M (Option Int)) : Prop where
  run : PO X e (tX X W (fun _ _ _ d v => d = v) f)
theorem fo_none : FO X W none (fun _ => pur none) := by
  refine ⟨⟨fun pins s σ H Q I h => po_none.run pins s σ H Q I ?_⟩⟩
  obtain ⟨F, ad, env, S, re, rs, h⟩ := h
  exact Fin.pure (d := none) rs h rfl
def intOf : D → M (Option Int)
  | .int i => pur (some i)
  | _ => mno
theorem fo_some (h : FE X W e f) : FO X W (some e) (fun env => bd (f env) intOf) := by
  refine ⟨⟨fun pins s σ H Q I h1 => (po_some h.run).run pins s σ H Q I ?_⟩⟩
  obtain ⟨F, ad, env, S, re, rs, h1⟩ := h1
  refine ⟨F, ad, env, S, re, rs, Fin.seq re h1 fun F1 ad1 S1 d v H1 n1 re1 rs1 dp1 h2 => ?_⟩
  cases d <;> first
    | exact h2.elim
    | exact ⟨_, dp1, Fin.pure rs1 h2 rfl⟩
def cutD (xs : List D) (lo hi : Option Int) : List D := (xs.drop (HT.sIx xs.length 0 lo)).take (HT.sIx xs.length xs.length hi - HT.sIx xs.length 0 lo)
def slD (x : D) (lo hi : Option Int) : M D := match x with
  | .str z => if z.length ≤ sizeLine then pur (.str (cutS z lo hi)) else mno
  | .tup xs => if xs.length ≤ sizeLine then pur (.tup (cutD xs lo hi)) else mno
  | x => bd (seqL x) fun xs => if xs.length ≤ sizeLine then pur (.lst (cutD xs lo hi)) else mno
theorem DPs.cut {K F ad L} {ds : List D} {vs : List V} (h : DPs K F ad L ds vs) (lo hi : Option Int) : DPs K F ad L (cutD ds lo hi) (cutV vs lo hi) := by
  unfold cutD cutV
  rw [← h.length]
  exact (h.drop _).take _
/-- t[lo:hi]: a tuple without a dict -/
def rSlC (K : PySem.W.Frag) : V → Option Int → Option Int → Hp → VK → Prop := fun x lo hi H Q => ∃ a xs, x = .ref a ∧ SqT K H a xs ∧
  (HT.sIx xs.length 0 lo = 0 ∧ HT.sIx xs.length xs.length hi = xs.length → Q (.ref a) H) ∧ (¬ (HT.sIx xs.length 0 lo = 0 ∧ HT.sIx xs.length xs.length hi = xs.length) → ∀ (p : Addr) (o : Obj), H p = none → o.dict = none → Q (.ref p) (upd H p (.frz o (.tup (cutV xs lo hi)))))
theorem sl_tupC : SlR X (rSlC X.K) := by
  intro pins s σ H x v vl vu lo hi sl Q I rx hs pl pu h
  obtain ⟨a, xs, rfl, hx, q1, q2⟩ := h
  by_cases hw : HT.sIx xs.length 0 lo = 0 ∧ HT.sIx xs.length xs.length hi = xs.length
  · exact sl_tupA pins s σ H _ v vl vu lo hi sl Q I rx hs pl pu ⟨a, xs, rfl, hx, q1, fun z => absurd hw z⟩
  · cases rx
    obtain ⟨its, r, ht, hz⟩ := I.tuple hx
    have hlen : its.toArray.size = xs.length := by rw [List.size_toArray]; exact r.length.symm
    refine ⟨"tuple", _, PyProof.Rows.slot_tuple_getitem.lookup, ht.typeIs, ?_⟩
    refine HT.getItem_tuple_cut ht hs pl pu (by rw [hlen]; exact hw) ?_ (by rw [hlen]; exact hz)
    rw [hlen]
    refine ⟨.ref s.heap.objs.size, _, I.laid (t' := s.toks) (o := .frz _ (.tup (cutV xs lo hi))) (fun b ob q => Heap.get?_push_of_some _ q) (Nat.le_refl _) ⟨Heap.get?_push_size _ rfl, ?_⟩, rfl, q2 hw _ _ (I.hok.fresh (Nat.le_refl _)) rfl⟩
    exact ⟨Nat.le_trans (cutV_length xs lo hi) hz, _, (r.drop (HT.sIx xs.length 0 lo)).take (HT.sIx xs.length xs.length hi - HT.sIx xs.length 0 lo), IsTup.new _ _⟩
def slc (f : Env → M D) (l h : Env → M (Option Int)) : Env → M D := fun env => bd (f env) fun x => bd (l env) fun lo => bd (h env) fun hi => slD x lo hi
theorem fe_slice {lo hi : Option Expr} {p2 : Pos} {l h : Env → M (Option Int)} (he : FE X W e f) (hl : FO X W lo l) (hh : FO X W hi h) : FE X W (.Subscript e (.Slice lo hi none p2) pos) (slc f l h) := by
  refine ⟨PE.weak (pe_slice (sl_tupC.or (sl_list.or sl_str)) he.run hl.run hh.run) fun σ H Q ⟨F, ad, env, S, re, rs, hq⟩ => ?_⟩
  refine ⟨F, ad, env, S, re, rs, Fin.seq re hq fun F1 ad1 S1 x v H1 n1 re1 rs1 dp1 h1 => ?_⟩
  refine ⟨F1, ad1, env, S1, re1, rs1, Fin.seq re1 h1 fun F2 ad2 S2 i j H2 n2 re2 rs2 e2 h2 => ?_⟩
  refine ⟨F2, ad2, env, S2, re2, rs2, Fin.seq re2 h2 fun F3 ad3 S3 k m H3 n3 re3 rs3 e3 h3 => ?_⟩
  subst e2 e3
  have dp := DP.mono (n2.trans n3).gr x v dp1
  cases x with
  | str z =>
    have h3 : Fin X W (DP X.K) σ F3 ad3 S3 H3 ((if z.length ≤ sizeLine then pur (.str (cutS z i k)) else mno : M D) S3) Q := h3
    split at h3
    · rename_i c
      cases dp
      exact .inr (.inr ⟨z, rfl, c, Fin.pure rs3 h3 rfl⟩)
    · exact h3.elim
  | tup xs =>
    have h3 : Fin X W (DP X.K) σ F3 ad3 S3 H3 ((if xs.length ≤ sizeLine then pur (.tup (cutD xs i k)) else mno : M D) S3) Q := h3
    split at h3
    · rename_i c
      obtain ⟨a, us, rfl, q1, q2⟩ := dp
      refine .inl ⟨a, us, rfl, sqT_mono rs3.sub q1.sq, fun hw => ?_, fun _ p o hp ho => ?_⟩
      · refine Fin.pure rs3 h3 ⟨a, us, rfl, q1, ?_⟩
        have : cutV us i k = us := by
          unfold cutV
          rw [hw.1, hw.2]
          simp
        rw [← this]
        exact q2.cut i k
      · exact h3 (.ref p) _ ad3 _ (Nx.alloc rs3 hp) (rs3.alloc hp) ⟨p, _, rfl, .inl ⟨o, upd_same, ho⟩, DPs.mono (Gr.alloc (F_none rs3 hp)) _ _ (q2.cut i k)⟩
    · exact h3.elim
  | _ =>
    simp only [slD] at h3
    obtain ⟨ds, S4, e4, h3⟩ := Fin.look h3 fun _ _ => seqL_ex
    obtain ⟨rfl, a, us, rfl, q1, q2⟩ := seqL_at rs3 dp e4
    split at h3
    · refine .inr (.inl ⟨a, us, rfl, q1, fun p hp => ?_⟩)
      exact h3 (.ref p) _ ad3 _ (Nx.alloc rs3 hp) (rs3.alloc hp) ⟨p, _, rfl, upd_same, DPs.mono (Gr.alloc (F_none rs3 hp)) _ _ (q2.cut i k)⟩
    · exact h3.elim
/-! ### slices with a step -/
def pickN (n : Nat) (lo hi st : Option Int) : List Nat := sliceRange (sliceBounds lo hi st n).1 (sliceBounds lo hi st n).2.1 (sliceBounds lo hi st n).2.2
def pickD {α : Type} (xs : List α) (lo hi st : Option Int) : List α := (pickN xs.length lo hi st).filterMap (xs[·]?)
theorem DPs.fm {K F ad L} {ds : List D} {vs : List V} (h : DPs K F ad L ds vs) : ∀ ix : List Nat, DPs K F ad L (ix.filterMap (ds[·]?)) (ix.filterMap (vs[·]?))
  | [] => rfl
  | i :: ix => by
    rw [List.filterMap_cons, List.filterMap_cons]
    cases q : ds[i]? with
    | none =>
      have : vs[i]? = none := by
        rw [List.getElem?_eq_none_iff] at q ⊢
        rw [← h.length]; exact q
      rw [this]
      exact DPs.fm h ix
    | some d =>
      obtain ⟨v, e1, e2⟩ := h.at q
      rw [e1]
      exact ⟨v, _, rfl, e2, DPs.fm h ix⟩
theorem vals_fm {vs : List V} {us : List Value} (h : Vals vs us) : ∀ ix : List Nat, Vals (ix.filterMap (vs[·]?)) (ix.filterMap (us[·]?))
  | [] => .nil
  | i :: ix => by
    rw [List.filterMap_cons, List.filterMap_cons]
    cases q : vs[i]? with
    | none =>
      rw [h.none_of q]
      exact vals_fm h ix
    | some v =>
      obtain ⟨u, e1, e2⟩ := h.get q
      rw [e1]
      exact .cons e2 (vals_fm h ix)
def tStp (K : PySem.W.Frag) (te : TE) (tl th ts : TO) : TE := fun σ H Q => te σ H fun x H1 => tl σ H1 fun l H2 => th σ H2 fun u H3 => ts σ H3 fun st H4 =>
  ∃ a xs, x = .ref a ∧ SqL K H4 a xs ∧ st ≠ some 0 ∧ ∀ p, H4 p = none → Q (.ref p) (upd H4 p (.lst (pickD xs l u st)))
theorem pe_stp {lo hi : Option Expr} {st : Expr} {te : TE} {tl th ts : TO} {p2 : Pos} (he : PE X e te) (hl : PO X lo tl) (hh : PO X hi th) (hs : PO X (some st) ts)
    (hop : ∀ o i, subscripted (.Slice lo hi (some st) p2) false o i = operate [o, i] (getItem o i) := by intro _ _; with_unfolding_all rfl) : PE X (.Subscript e (.Slice lo hi (some st) p2) pos) (tStp X.K te tl th ts) := by
  refine ⟨fun pins s σ H Q I h => Subscript_ (thn (he.run pins s σ H _ I h) fun v s1 ⟨x, H1, I1, r1, q1⟩ => wpAny_Slice (thn (hl.run pins s1 σ H1 _ I1 q1) fun vl s2 ⟨l, H2, I2, pl, q2⟩ =>
    thn (hh.run pins s2 σ H2 _ I2 q2) fun vu s3 ⟨u, H3, I3, pu, q3⟩ => thn (hs.run pins s3 σ H3 _ I3 q3) fun vs s4 ⟨o, H4, I4, ps, q4⟩ => ?_))⟩
  obtain ⟨a, xs, rfl, hx, h0, q⟩ := q4
  cases r1
  have I5 : Inv X pins σ H4 { s4 with heap := s4.heap.push { cls := .type "slice", data := .fields #[vl, vu, vs] } } :=
    I4.kept (t' := s4.toks) (h' := s4.heap.push { cls := .type "slice", data := .fields #[vl, vu, vs] }) fun _ _ z => Heap.get?_push_of_some _ z
  obtain ⟨its, r, ht, hz⟩ := I5.list hx
  show wpAny _ _ (subscriptTail e (.Slice lo hi (some st) p2) (.ref a) (.ref s4.heap.objs.size)) _ _ _
  refine tail_any (ops := [.ref a, .ref s4.heap.objs.size]) ht.isList.typeIs PySem.slot_list_getitem.lookup ?_ (hop _ _)
  have hlen := r.length
  refine wpAny_getItem_list_slice ht.isList (Heap.IsSliceOf.new _ _ _ _) pl pu ps h0 ?_ (by rw [List.size_toArray]; omega)
  have hpick : Vals (pickD xs l u o) (pickD its l u o) := by
    unfold pickD
    rw [← hlen]
    exact vals_fm r _
  have e0 : slicePick its.toArray l u o = (pickD its l u o).toArray := by
    unfold slicePick pickD pickN
    have e1 : (fun i : Nat => its.toArray[i]?) = fun i : Nat => its[i]? := by
      funext i
      simp
    rw [List.size_toArray, e1]
  have hle : (pickD xs l u o).length ≤ sizeLine := by
    have h1 := slicePick_size_le its.toArray l u o
    rw [e0, List.size_toArray, List.size_toArray, ← hpick.length, ← hlen] at h1
    omega
  rw [e0]
  refine ⟨.ref _, _, I5.laid (t' := s4.toks) (o := .lst (pickD xs l u o)) (fun _ _ z => Heap.get?_push_of_some _ z) (Nat.le_refl _) ⟨hle, _, 0, hpick, Heap.get?_push_size _ rfl⟩, rfl, q _ (I5.hok.fresh (Nat.le_refl _))⟩
def stpD (x : D) (lo hi st : Option Int) : M D := if st ≠ some 0 then bd (seqL x) fun xs => pur (.lst (pickD xs lo hi st)) else mno
def stp (f : Env → M D) (l h s : Env → M (Option Int)) : Env → M D := fun env => bd (f env) fun x => bd (l env) fun lo => bd (h env) fun hi => bd (s env) fun st => stpD x lo hi st
theorem fe_stp {lo hi : Option Expr} {st : Expr} {p2 : Pos} {l h s : Env → M (Option Int)} (he : FE X W e f) (hl : FO X W lo l) (hh : FO X W hi h) (hst : FO X W (some st) s)
    (hop : ∀ o i, subscripted (.Slice lo hi (some st) p2) false o i = operate [o, i] (getItem o i) := by intro _ _; with_unfolding_all rfl) : FE X W (.Subscript e (.Slice lo hi (some st) p2) pos) (stp f l h s) := by
  refine ⟨PE.weak (pe_stp he.run hl.run hh.run hst.run hop) fun σ H Q ⟨F, ad, env, S, re, rs, hq⟩ => ?_⟩
  refine ⟨F, ad, env, S, re, rs, Fin.seq re hq fun F1 ad1 S1 x v H1 n1 re1 rs1 dp1 h1 => ?_⟩
  refine ⟨F1, ad1, env, S1, re1, rs1, Fin.seq re1 h1 fun F2 ad2 S2 i j H2 n2 re2 rs2 e2 h2 => ?_⟩
  refine ⟨F2, ad2, env, S2, re2, rs2, Fin.seq re2 h2 fun F3 ad3 S3 k m H3 n3 re3 rs3 e3 h3 => ?_⟩
  refine ⟨F3, ad3, env, S3, re3, rs3, Fin.seq re3 h3 fun F4 ad4 S4 o q H4 n4 re4 rs4 e4 h4 => ?_⟩
  subst e2 e3 e4
  have dp := DP.mono (n2.trans (n3.trans n4)).gr x v dp1
  unfold stpD at h4
  split at h4
  case isFalse => exact h4.elim
  rename_i c
  obtain ⟨ds, S5, e5, h4⟩ := Fin.look h4 fun _ _ => seqL_ex
  obtain ⟨rfl, a, us, rfl, q1, q2⟩ := seqL_at rs4 dp e5
  refine ⟨a, us, rfl, q1, c, fun p hp => ?_⟩
  refine h4 (.ref p) _ ad4 _ (Nx.alloc rs4 hp) (rs4.alloc hp) ⟨p, _, rfl, upd_same, DPs.mono (Gr.alloc (F_none rs4 hp)) _ _ ?_⟩
  unfold pickD
  rw [← q2.length]
  exact q2.fm _

/-! ### a tuple turned round -/
theorem revIdx (its : List Value) : (List.range its.length).filterMap (fun m : Nat => its.toArray[(((its.length : Int) - 1) + (m : Int) * (-1)).toNat]?) = its.reverse := by
  have h := PySem.W.krv_all its.reverse.toArray
  rw [List.size_toArray, List.length_reverse] at h
  rw [show (its.reverse.toArray).toList = its.reverse from rfl] at h
  rw [← h]
  have : ∀ l : List Nat, (∀ m ∈ l, m < its.length) → l.filterMap (fun m : Nat => its.toArray[(((its.length : Int) - 1) + (m : Int) * (-1)).toNat]?) = l.filterMap (fun m => its.reverse.toArray[m]?) := by
    intro l hl
    induction l with
    | nil => rfl
    | cons m l ih =>
      have hm := hl m List.mem_cons_self
      have e : its.toArray[(((its.length : Int) - 1) + (m : Int) * (-1)).toNat]? = its.reverse.toArray[m]? := by
        have : (((its.length : Int) - 1) + (m : Int) * (-1)).toNat = its.length - 1 - m := by omega
        rw [this]
        simp only [List.getElem?_toArray]
        rw [List.getElem?_reverse hm]
      rw [List.filterMap_cons, List.filterMap_cons, e, ih fun k hk => hl k (List.mem_cons_of_mem _ hk)]
  exact this _ fun m hm => List.mem_range.mp hm
theorem rev_item {prog : Program} {w : World} {A : Around} {E : Value → Shared → Prop} {s : Shared} {tp sl : Addr} {its : List Value} {u : Tok} {Q : Value → Shared → Prop} (ht : IsTup s.heap tp its.toArray) (hs : s.heap.IsSliceOf sl .none .none (.int (-1) u)) (hz : its.length ≤ sizeLine)
    (h : Q (.ref s.heap.objs.size) { s with heap := s.heap.push { cls := .type "tuple", data := .seq its.reverse.toArray } }) : wpAny (model prog w) A (getItem (.ref tp) (.ref sl)) Q E s := by
  obtain ⟨so, hso, hsc, hsd⟩ := id hs
  have hT : s.TypeIs (.ref sl) "slice" := ⟨so, hso, hsc⟩
  have room : sizeOk (.seq its.reverse.toArray) := by
    show its.reverse.toArray.size ≤ sizeLine
    rw [List.size_toArray, List.length_reverse]; exact hz
  unfold getItem
  try with_reducible refine wpAny_holding ?_
  first | refine wpAny_bind (wpAny_pure ?_) | skip
  refine wpAny_bind (wpAny_sequenceKey ht.typeIs (by decide) (wpAny_bind (wpAny_callSpecial?_slot (name := Str.ofString "__getitem__") ht.typeIs PyProof.Rows.slot_tuple_getitem
    (wpAny_call_entry PyProof.Rows.slot_tuple_getitem ht.typeIs entry_tuple_getitem ?_ (args_tuple_getitem _ _)))))
  show wpAny _ _ (Builtin.Tuple.tupleItemsOf (.ref tp) >>= _) _ _ s
  refine wpAny_bind (tupleItemsOf_ ht (wpAny_bind (wpAny_typeOf hT ?_)))
  rw [if_pos (by decide)]
  have app : ∀ {A' : Around} {R : Int × Int × Nat → Shared → Prop} {E' : Value → Shared → Prop}, R ((its.length : Int) - 1, -1, its.length) s → wpAny (model prog w) A' (Builtin.Slice.sliceApplied (.ref sl) (pure (its.toArray.size : Int))) R E' s := by
    intro A' R E' r
    unfold Builtin.Slice.sliceApplied Builtin.Slice.sliceFields
    refine wpAny_bind (wpAny_bind (wpAny_field hso hsd (x := .none) rfl (wpAny_bind (wpAny_field hso hsd (x := .none) rfl (wpAny_bind (wpAny_field hso hsd (x := .int (-1) u) rfl (wpAny_pure ?_)))))))
    refine wpAny_bind (slicePart_int ?_)
    show wpAny _ _ (if ((-1 : Int) == 0) = true then _ else _) _ _ s
    rw [if_neg (by decide)]
    refine wpAny_bind (slicePart_none (wpAny_bind (slicePart_none (wpAny_bind (wpAny_pure ?_)))))
    have e1 : Builtin.Slice.sliceAdjust none none (-1) (its.toArray.size : Int) = ((its.length : Int) - 1, -1) := by
      unfold Builtin.Slice.sliceAdjust
      simp
    have e2 : Builtin.Slice.slicePlaces ((its.length : Int) - 1) (-1) (-1) = its.length := by
      unfold Builtin.Slice.slicePlaces
      simp only [show ¬ ((-1 : Int) > 0) by decide, if_false]
      by_cases h0 : its.length = 0
      · rw [h0]; decide
      · rw [if_pos (by omega)]
        show (((its.length : Int) - 1 - -1 - 1) / (- -1) + 1).toNat = _
        rw [show (- -1 : Int) = 1 by decide, Int.ediv_one]
        omega
    show wpAny _ _ (match Builtin.Slice.sliceAdjust none none (-1) (its.toArray.size : Int) with | (lo, hi) => pure (lo, (-1 : Int), Builtin.Slice.slicePlaces lo hi (-1))) _ _ s
    rw [e1]
    show wpAny _ _ (pure ((its.length : Int) - 1, (-1 : Int), Builtin.Slice.slicePlaces ((its.length : Int) - 1) (-1) (-1))) _ _ s
    rw [e2]
    exact wpAny_pure r
  refine wpAny_bind (app ?_)
  show wpAny _ _ (if (((its.length : Int) - 1 == 0) && ((-1 : Int) == 1) && (its.length == its.toArray.size)) = true then _ else _) _ _ s
  rw [if_neg (by
    rw [show ((-1 : Int) == 1) = false from rfl, Bool.and_false, Bool.false_and]
    exact Bool.false_ne_true), revIdx]
  first
    | exact wpAny_bind (m := Builtin.Tuple.tupleExact _) (wpAny_newObj_type (wpAny_pure ⟨_, rfl, wpAny_pure h⟩) room)
    | exact wpAny_bind (m := Builtin.Tuple.tupleExact _) (wpAny_newObj_type (wpAny_bind (wpAny_pure (wpAny_pure ⟨_, rfl, wpAny_pure h⟩))) room)
    | exact wpAny_bind (wpAny_bind (m := Builtin.Tuple.tupleExact _) (wpAny_newObj_type (wpAny_pure (wpAny_pure ⟨_, rfl, wpAny_pure h⟩)) room))
    | exact wpAny_bind (wpAny_bind (m := Builtin.Tuple.tupleExact _) (wpAny_newObj_type (wpAny_pure ⟨_, rfl, wpAny_pure h⟩) room))
end
end Fx

end
/-! ## Fx7 -/
section
namespace Fx
open PySem PySem.Spec PyProof.Rows L2
variable [tb : Tabl]
theorem Nx.unpriv {F ad S H F' ad' S' H'} {p : Addr} {o : HO} (x : Nx F ad S (upd H p o) F' ad' S' H') (hp : H p = none) : Nx F ad S H F' ad' S' H' := by
  refine ⟨x.fsub, fun a u e => ?_, x.len, x.adk, fun n od e => ?_, fun a u e l t => x.keep a u (by rw [upd_ne (ne_of_none e hp)]; exact e) l t, fun a e => ?_⟩
  · rcases x.fnew a u e with h | h | h
    · exact .inl h
    · by_cases q : a = p
      · subst q; exact .inr (.inl (.inl hp))
      · refine .inr (.inl ?_); unfold Fr at h ⊢; rw [upd_ne q] at h; exact h
    · exact .inr (.inr h)
  · rcases x.snew n od e with h | h
    · exact .inl h
    · by_cases q : ad' n = p
      · rw [q]; exact .inr (.inl hp)
      · refine .inr ?_; unfold Fr at h ⊢; rw [upd_ne q] at h; exact h
  · have h := x.back a e
    by_cases q : a = p
    · subst q; exact .inl hp
    · unfold Fr at h ⊢; rw [upd_ne q] at h; exact h
section
variable {X : Cx} {W : WX} {pos p : Pos} {e a b : Expr} {es : List Expr} {f f1 f2 : Env → M D} {t : Env → M (List D)}

/-! ### t[::-1], t a tuple -/
def revD : D → M D
  | .tup xs => pur (.tup xs.reverse)
  | _ => mno
theorem fe_revT {k : Nat} {p1 p2 p3 : Pos} (he : FE X W e f)
    (hop : ∀ o i, subscripted (.Slice none none (some (.UnaryOp .USub (.Constant (.int 1) k p1) p2)) p3) false o i = operate [o, i] (getItem o i) := by intro _ _; with_unfolding_all rfl) :
    FE X W (.Subscript e (.Slice none none (some (.UnaryOp .USub (.Constant (.int 1) k p1) p2)) p3) pos) (un revD f) := by
  have base : PE X (.Subscript e (.Slice none none (some (.UnaryOp .USub (.Constant (.int 1) k p1) p2)) p3) pos) (fun σ H Q => tF X W f σ H fun x H1 => ∃ a xs, x = .ref a ∧ SqT X.K H1 a xs ∧ ∀ (p : Addr) (o : Obj), H1 p = none → o.dict = none → Q (.ref p) (upd H1 p (.frz o (.tup xs.reverse)))) := by
    refine ⟨fun pins s σ H Q I h => Subscript_ (thn (he.run.run pins s σ H _ I h) fun v s1 ⟨x, H1, I1, r1, q1⟩ => ?_)⟩
    obtain ⟨a, xs, rfl, hx, q⟩ := q1
    cases r1
    have hst : PO X (some (.UnaryOp .USub (.Constant (.int 1) k p1) p2)) (tPart (tUn (rU fun i => .int (-i)) (tC (.int 1)))) := po_some (pe_un un_neg pe_int)
    refine wpAny_Slice ?_
    rw [evalPart_none]
    refine wpAny_pure (wpAny_pure (thn (hst.run pins s1 σ H1 (fun o H4 => o = some (-1) ∧ H4 = H1) I1 ⟨1, rfl, -1, rfl, rfl, rfl⟩) fun vs s4 ⟨o, H4, I4, ps, eo, e4⟩ => ?_))
    subst eo e4
    cases ps with
    | int i u =>
      have I5 : Inv X pins σ H4 { s4 with heap := s4.heap.push { cls := .type "slice", data := .fields #[.none, .none, .int (-1) u] } } :=
        I4.kept (t' := s4.toks) (h' := s4.heap.push { cls := .type "slice", data := .fields #[.none, .none, .int (-1) u] }) fun _ _ z => Heap.get?_push_of_some _ z
      obtain ⟨its, r, ht, hz⟩ := I5.tuple hx
      show wpAny _ _ (subscriptTail e (.Slice none none (some (.UnaryOp .USub (.Constant (.int 1) k p1) p2)) p3) (.ref a) (.ref s4.heap.objs.size)) _ _ _
      refine tail_any (ops := [.ref a, .ref s4.heap.objs.size]) ht.typeIs PyProof.Rows.slot_tuple_getitem.lookup ?_ (hop _ _)
      refine rev_item ht (Heap.IsSliceOf.new _ _ _ _) (by rw [← r.length]; exact hz) ?_
      refine ⟨.ref _, _, I5.laid (t' := s4.toks) (o := .frz _ (.tup xs.reverse)) (fun _ _ z => Heap.get?_push_of_some _ z) (Nat.le_refl _) ⟨Heap.get?_push_size _ rfl, by rw [List.length_reverse]; exact hz, _, r.reverse, ⟨_, Heap.get?_push_size _ rfl, rfl, _, rfl⟩⟩, rfl, q _ _ (I5.hok.fresh (Nat.le_refl _)) rfl⟩
  refine ⟨PE.weak base fun σ H Q ⟨F, ad, env, S, re, rs, h⟩ => ⟨F, ad, env, S, re, rs, Fin.seq re h fun F1 ad1 S1 d v H1 n1 re1 rs1 dp1 h1 => ?_⟩⟩
  cases d <;> first
    | exact h1.elim
    | skip
  obtain ⟨a, us, rfl, q1, q2⟩ := dp1
  refine ⟨a, us, rfl, sqT_mono rs1.sub q1.sq, fun p o hp ho => ?_⟩
  exact h1 (.ref p) _ ad1 _ (Nx.alloc rs1 hp) (rs1.alloc hp) ⟨p, _, rfl, .inl ⟨o, upd_same, ho⟩, DPs.mono (Gr.alloc (F_none rs1 hp)) _ _ q2.reverse⟩

/-! ### methods that change a list of the store -/
def objL (x : D) : M (Nat × List D) := match x with
  | .obj n => fun S => match S[n]? with
    | some (some (.lst xs)) => .ok (n, xs) S
    | _ => .no
  | _ => mno
theorem objL_ex {d : D} {x : Ex} {S S' : Store} (h : objL d S = .ex x S') : False := by
  cases d <;> simp [objL, mno] at h
  split at h <;> cases h
theorem objL_at {F ad S H} {d : D} {v : V} {r : Nat × List D} {S' : Store} (rs : RS X.K F ad S H) (dp : DP X.K F ad S.length d v) (h : objL d S = .ok r S') :
    S' = S ∧ S[r.1]? = some (some (.lst r.2)) ∧ ∃ vs, v = .ref (ad r.1) ∧ H (ad r.1) = some (.lst vs) ∧ DPs X.K F ad S.length r.2 vs := by
  cases d with
  | obj n =>
    obtain ⟨hn, rfl⟩ := dp
    simp only [objL] at h
    split at h
    · rename_i xs q
      cases h
      obtain ⟨h1, o, h2, vs, h3, h4⟩ := rs.liv n _ q
      subst h3
      exact ⟨rfl, q, vs, rfl, h2, h4⟩
    · cases h
  | _ => cases h
/-- the list of the store becomes xs, and out comes d -/
def putL (n : Nat) (xs : List D) (d : D) : M D := fun S => .ok d (S.set n (some (.lst xs)))
def MetF (X : Cx) (id : String) (g : Nat × List D → List D → M D) : Prop := ∃ r, MtR X id r ∧ ∀ (W : WX) (σ : L2.St) F ad S H c ds vs ws (Q : VK), RS X.K F ad S H → S[c.1]? = some (some (.lst c.2)) → H (ad c.1) = some (.lst ws) → DPs X.K F ad S.length c.2 ws →
  DPs X.K F ad S.length ds vs → Fin X W (DP X.K) σ F ad S H (g c ds S) Q → r (.ref (ad c.1)) vs H Q
theorem fin_putL {σ : L2.St} {F ad S H} {n : Nat} {xs ys : List D} {vs : List V} {d : D} {v : V} {Q : VK} (rs : RS X.K F ad S H) (q : S[n]? = some (some (.lst ys))) (dx : DPs X.K F ad S.length xs vs) (dd : DP X.K F ad S.length d v) (h : Fin X W (DP X.K) σ F ad S H (putL n xs d S) Q) :
    Q v (upd H (ad n) (.lst vs)) := h v F ad _ (Nx.put rs q) (rs.put q ⟨vs, rfl, dx⟩) (by rw [List.length_set]; exact dd)
def appD : Nat × List D → List D → M D := fun c ds => match ds with
  | [y] => if c.2.length < sizeLine then putL c.1 (c.2 ++ [y]) .non else mno
  | _ => mno
theorem mf_append : MetF X "list.append" appD := by
  refine ⟨_, mt_append, fun W σ F ad S H c ds vs ws Q rs q hH dw dv h => ?_⟩
  unfold appD at h
  split at h
  · obtain ⟨v, rfl, d1⟩ := dv.one_inv
    split at h
    · rename_i cl
      exact ⟨_, ws, v, rfl, rfl, hH, by rw [← dw.length]; exact cl, fin_putL (d := D.non) rs q (dw.append (DPs.one d1)) rfl h⟩
    · exact h.elim
  · exact h.elim
def extD : Nat × List D → List D → M D := fun c ds => match ds with
  | [y] => bd (seqM y) fun ys => if c.2.length + ys.length ≤ sizeLine then putL c.1 (c.2 ++ ys) .non else mno
  | _ => mno
theorem mf_extend : MetF X "list.extend" extD := by
  refine ⟨_, mt_extend, fun W σ F ad S H c ds vs ws Q rs q hH dw dv h => ?_⟩
  unfold extD at h
  split at h
  · obtain ⟨v, rfl, d1⟩ := dv.one_inv
    obtain ⟨ys, S1, e1, h⟩ := Fin.look h fun _ _ => seqM_ex
    obtain ⟨rfl, a, us, rfl, h1, h2⟩ := seqM_at rs d1 e1
    split at h
    · rename_i cl
      exact ⟨_, a, ws, us, rfl, rfl, hH, h1, by rw [← dw.length, ← h2.length]; exact cl, fin_putL (d := D.non) rs q (dw.append h2) rfl h⟩
    · exact h.elim
  · exact h.elim
def popD : Nat × List D → List D → M D := fun c ds => match ds with
  | [.int i] => bd (opt (ixN c.2.length i)) fun k => bd (opt c.2[k]?) fun y => if inR i then putL c.1 (c.2.eraseIdx k) y else mno
  | _ => mno
theorem mf_popAt : MetF X "list.pop" popD := by
  refine ⟨_, mt_popAt, fun W σ F ad S H c ds vs ws Q rs q hH dw dv h => ?_⟩
  unfold popD at h
  split at h
  · rename_i i
    obtain ⟨v, rfl, d1⟩ := dv.one_inv
    cases d1
    obtain ⟨k, S0, e0, h⟩ := Fin.look h fun _ _ => opt_ex
    obtain ⟨rfl, ek⟩ := opt_ok e0
    obtain ⟨y, S1, e1, h⟩ := Fin.look h fun _ _ => opt_ex
    obtain ⟨rfl, e2⟩ := opt_ok e1
    split at h
    · rename_i cr
      obtain ⟨u, e3, d3⟩ := dw.at e2
      obtain ⟨sk, _⟩ := ixN_seq ek
      have c1 := cr.1
      have c2 := cr.2
      exact ⟨_, ws, i, k, u, rfl, rfl, hH, by omega, by omega, by rw [← dw.length]; exact sk, e3, fin_putL rs q (dw.eraseIdx k) d3 h⟩
    · exact h.elim
  · exact h.elim
def met (f : Env → M D) (t : Env → M (List D)) (g : Nat × List D → List D → M D) : Env → M D := fun env => bd (f env) fun x => bd (objL x) fun _ => bd (t env) fun ds => bd (objL x) fun c => g c ds
theorem met_core {r : V → List V → Hp → VK → Prop} {g : Nat × List D → List D → M D}
    (hq : ∀ (W : WX) (σ : L2.St) F ad S H c ds vs ws (Q : VK), RS X.K F ad S H → S[c.1]? = some (some (.lst c.2)) → H (ad c.1) = some (.lst ws) → DPs X.K F ad S.length c.2 ws → DPs X.K F ad S.length ds vs → Fin X W (DP X.K) σ F ad S H (g c ds S) Q → r (.ref (ad c.1)) vs H Q)
    {σ : L2.St} {H : Hp} {Q : VK} (h : tF X W (met f t g) σ H Q) : tBM X.K "list" r (tF X W f) (tL X W t) σ H Q := by
  obtain ⟨F, ad, env, S, re, rs, h⟩ := h
  refine ⟨F, ad, env, S, re, rs, Fin.seq re h fun F1 ad1 S1 x v H1 n1 re1 rs1 dp1 h1 => ?_⟩
  obtain ⟨c0, S2, e0, h1⟩ := Fin.look h1 fun _ _ => objL_ex
  obtain ⟨rfl, q0, vs0, ev, hH0, _⟩ := objL_at rs1 dp1 e0
  refine ⟨by rw [ev]; exact .inl ⟨rfl, _, SqL.of hH0⟩, F1, ad1, env, _, re1, rs1, Fin.seq re1 h1 fun F2 ad2 S2 ds us H2 n2 re2 rs2 dp2 h2 => ?_⟩
  obtain ⟨c, S3, e3, h2⟩ := Fin.look h2 fun _ _ => objL_ex
  obtain ⟨rfl, q3, ws, ev3, hH3, dw⟩ := objL_at rs2 (DP.mono n2.gr x v dp1) e3
  rw [ev3]
  exact hq W σ F2 ad2 _ H2 c ds us ws Q rs2 q3 hH3 dw dp2 h2
/-- what the call of a method of a built-in type asks of its text -/
structure Txt1 (X : Cx) (o : Expr) (name : Str) (apos cpos : Pos) (e : Expr) (es : List Expr) : Prop where
  base : attributeBase o name X.env (eval o X.env) = eval o X.env
  few : (((backTo cpos (starEach (e :: es) X.env)).all fun y => !y.1) && ((backToKw cpos (keywordEach [] X.env)).all fun y => y.1.isSome) && decide ((e :: es).length + ([] : List Keyword).length + (if ([] : List Keyword).isEmpty then 0 else 1) < 30)) = true
  line : (apos.endLine == cpos.line) = true
  star : starEach (e :: es) X.env = (false, eval e X.env) :: starEach es X.env
  plain : ((backTo cpos (starEach es X.env)).any fun y => y.1) = false
theorem fe_append {apos cpos : Pos} (x : Txt1 X a "append" apos cpos e es) (ho : FE X W a f) (ha : FA X W (e :: es) t) : FE X W (.Call (.Attribute a "append" apos) (e :: es) [] cpos) (met f t appD) := by
  obtain ⟨r, hr, hq⟩ := mf_append (X := X)
  exact ⟨PE.weak (pe_bm PySem.F.plainAttrs_list PySem.F.slot_list_append PySem.F.type_list_append hr ho.run ha.run x.base x.few x.line x.star x.plain) fun σ H Q h => met_core hq h⟩
theorem fe_extend {apos cpos : Pos} (x : Txt1 X a "extend" apos cpos e es) (ho : FE X W a f) (ha : FA X W (e :: es) t) : FE X W (.Call (.Attribute a "extend" apos) (e :: es) [] cpos) (met f t extD) := by
  obtain ⟨r, hr, hq⟩ := mf_extend (X := X)
  exact ⟨PE.weak (pe_bm PySem.F.plainAttrs_list PySem.F.slot_list_extend PySem.F.type_list_extend hr ho.run ha.run x.base x.few x.line x.star x.plain) fun σ H Q h => met_core hq h⟩
theorem fe_popAt {apos cpos : Pos} (x : Txt1 X a "pop" apos cpos e es) (ho : FE X W a f) (ha : FA X W (e :: es) t) : FE X W (.Call (.Attribute a "pop" apos) (e :: es) [] cpos) (met f t popD) := by
  obtain ⟨r, hr, hq⟩ := mf_popAt (X := X)
  exact ⟨PE.weak (pe_bm PySem.F.plainAttrs_list PySem.F.slot_list_pop PySem.F.type_list_pop hr ho.run ha.run x.base x.few x.line x.star x.plain) fun σ H Q h => met_core hq h⟩
/-- x.upper() -/
def upD : D → M D
  | .str x => if x.length ≤ 5592405 then pur (.str (Txt.upper x)) else mno
  | _ => mno
theorem fe_upper {apos : Pos} (ho : FE X W a f) (hbase : attributeBase a "upper" X.env (eval a X.env) = eval a X.env := by rfl) (hline : (apos.endLine == pos.line) = true := by rfl) : FE X W (.Call (.Attribute a "upper" apos) [] [] pos) (un upD f) := by
  refine ⟨PE.weak (pe_upper ho.run hbase hline) fun σ H Q ⟨F, ad, env, S, re, rs, h⟩ => ⟨F, ad, env, S, re, rs, Fin.seq re h fun F1 ad1 S1 d v H1 n1 re1 rs1 dp1 h1 => ?_⟩⟩
  cases d <;> first
    | exact h1.elim
    | skip
  rename_i z
  have h1 : Fin X W (DP X.K) σ F1 ad1 S1 H1 ((if z.length ≤ 5592405 then pur (.str (Txt.upper z)) else mno : M D) S1) Q := h1
  cases dp1
  split at h1
  · rename_i c
    exact ⟨⟨z, rfl⟩, z, rfl, rfl, c, Fin.pure rs1 h1 rfl⟩
  · exact h1.elim

/-! ### dicts of the store -/
def keyOf : D → Option Key
  | .int i => some (.inl i)
  | .str x => some (.inr x)
  | _ => none
theorem keyOf_V {K F ad L} {d : D} {v : V} {k : Key} (dp : DP K F ad L d v) (h : keyOf d = some k) : v = kV k := by
  cases d <;> first
    | (cases h; done)
    | (cases h; exact dp)
def valD (kvs : List (Key × D)) (k : Key) : Option D := (kvs.find? fun kv => decide (kv.1 = k)).map (·.2)
def putD (kvs : List (Key × D)) (k : Key) (d : D) : List (Key × D) :=
  if (kvs.any fun kv => decide (kv.1 = k)) = true then kvs.map (fun kv => if kv.1 = k then (kv.1, d) else kv) else kvs ++ [(k, d)]
theorem DPk.val {K F ad L} {k : Key} : ∀ {ds : List (Key × D)} {vs : List (Key × V)}, DPk K F ad L ds vs → (valD ds k = none ∧ valV vs k = none) ∨ ∃ d v, valD ds k = some d ∧ valV vs k = some v ∧ DP K F ad L d v
  | [], _, h => by cases h; exact .inl ⟨rfl, rfl⟩
  | (j, d) :: ds, _, ⟨v, r, e, h1, h2⟩ => by
    subst e
    by_cases q : j = k
    · refine .inr ⟨d, v, ?_, ?_, h1⟩ <;> simp [valD, valV, List.find?_cons, q]
    · have := DPk.val (k := k) h2
      simpa [valD, valV, List.find?_cons, q] using this
theorem DPk.upd {K F ad L} {k : Key} {d : D} {v : V} (hd : DP K F ad L d v) : ∀ {ds : List (Key × D)} {vs : List (Key × V)}, DPk K F ad L ds vs → DPk K F ad L (ds.map (fun kv => if kv.1 = k then (kv.1, d) else kv)) (vs.map (fun kv => if kv.1 = k then (kv.1, v) else kv))
  | [], _, h => by cases h; exact rfl
  | (j, x) :: ds, _, ⟨u, r, e, h1, h2⟩ => by
    subst e
    rw [List.map_cons, List.map_cons]
    by_cases q : j = k
    · rw [if_pos q, if_pos q]
      exact ⟨v, _, rfl, hd, DPk.upd hd h2⟩
    · rw [if_neg q, if_neg q]
      exact ⟨u, _, rfl, h1, DPk.upd hd h2⟩
theorem DPk.snoc {K F ad L} {k : Key} {d : D} {v : V} (hd : DP K F ad L d v) : ∀ {ds : List (Key × D)} {vs : List (Key × V)}, DPk K F ad L ds vs → DPk K F ad L (ds ++ [(k, d)]) (vs ++ [(k, v)])
  | [], _, h => by cases h; exact ⟨v, [], rfl, hd, rfl⟩
  | (j, x) :: ds, _, ⟨u, r, e, h1, h2⟩ => by
    subst e
    exact ⟨u, _, rfl, h1, DPk.snoc hd h2⟩
theorem DPk.anyk {K F ad L} {k : Key} : ∀ {ds : List (Key × D)} {vs : List (Key × V)}, DPk K F ad L ds vs → (ds.any fun kv => decide (kv.1 = k)) = (vs.any fun kv => decide (kv.1 = k))
  | [], _, h => by cases h; rfl
  | (j, x) :: ds, _, ⟨u, r, e, h1, h2⟩ => by
    subst e
    rw [List.any_cons, List.any_cons, DPk.anyk h2]
theorem DPk.put {K F ad L} {k : Key} {d : D} {v : V} (hd : DP K F ad L d v) {ds : List (Key × D)} {vs : List (Key × V)} (h : DPk K F ad L ds vs) : DPk K F ad L (putD ds k d) (putK vs k v) := by
  unfold putD putK
  rw [h.anyk]
  split
  · exact h.upd hd
  · exact h.snoc hd
def objK (x : D) : M (Nat × List (Key × D)) := match x with
  | .obj n => fun S => match S[n]? with
    | some (some (.dct xs)) => .ok (n, xs) S
    | _ => .no
  | _ => mno
theorem objK_ex {d : D} {x : Ex} {S S' : Store} (h : objK d S = .ex x S') : False := by
  cases d <;> simp [objK, mno] at h
  split at h <;> cases h
theorem objK_at {F ad S H} {d : D} {v : V} {r : Nat × List (Key × D)} {S' : Store} (rs : RS X.K F ad S H) (dp : DP X.K F ad S.length d v) (h : objK d S = .ok r S') :
    S' = S ∧ S[r.1]? = some (some (.dct r.2)) ∧ ∃ vs, v = .ref (ad r.1) ∧ H (ad r.1) = some (.dK vs) ∧ DPk X.K F ad S.length r.2 vs := by
  cases d with
  | obj n =>
    obtain ⟨hn, rfl⟩ := dp
    simp only [objK] at h
    split at h
    · rename_i xs q
      cases h
      obtain ⟨h1, o, h2, vs, h3, h4⟩ := rs.liv n _ q
      subst h3
      exact ⟨rfl, q, vs, rfl, h2, h4⟩
    · cases h
  | _ => cases h
/-- d[k] -/
def dgetD (x y : D) : M D := bd (objK x) fun c => bd (opt (keyOf y)) fun k => opt (valD c.2 k)
theorem fe_dget (hu : X.A.units + 1 < cLine) (ho : FE X W a f1) (hi : FE X W b f2) (hs : NoSl b) : FE X W (.Subscript a b pos) (bin dgetD f1 f2) := by
  refine ⟨PE.weak (pe_dget hu ho.run hi.run hs) fun σ H Q ⟨F, ad, env, S, re, rs, h⟩ => ⟨F, ad, env, S, re, rs, Fin.seq re h fun F1 ad1 S1 x v H1 n1 re1 rs1 dp1 h1 => ?_⟩⟩
  refine ⟨F1, ad1, env, S1, re1, rs1, Fin.seq re1 h1 fun F2 ad2 S2 y w H2 n2 re2 rs2 dp2 h2 => ?_⟩
  obtain ⟨c, S3, e3, h2⟩ := Fin.look h2 fun _ _ => objK_ex
  obtain ⟨rfl, q, vs, rfl, hH, dk⟩ := objK_at rs2 (DP.mono n2.gr x v dp1) e3
  obtain ⟨k, S4, e4, h2⟩ := Fin.look h2 fun _ _ => opt_ex
  obtain ⟨rfl, e5⟩ := opt_ok e4
  have ew := keyOf_V dp2 e5
  subst ew
  rcases dk.val (k := k) with ⟨z, _⟩ | ⟨d, u, e6, e7, d7⟩
  · rw [z] at h2; exact h2.elim
  · rw [e6] at h2
    exact ⟨_, u, rfl, by rw [← e7]; exact DGet.k hH, Fin.pure rs2 h2 d7⟩
/-- d[k] = e: the value first -/
def dput (f1 f2 f3 : Env → M D) : Env → MS := fun env => lft (f3 env) env fun d => lft (f1 env) env fun x => lft (f2 env) env fun y => lft (objK x) env fun c => lft (opt (keyOf y)) env fun k S =>
  if c.2.length < sizeLine then .ok (.nx env) (S.set c.1 (some (.dct (putD c.2 k d)))) else .no
theorem FinS.look {γ : Type} {D : Ends} {F ad S H} {m : M γ} {env : Env} {k : γ → MS} (h : FinS X W D F ad S H (lft m env k S)) (hx : ∀ e S', m S = .ex e S' → False) : ∃ c S1, m S = .ok c S1 ∧ FinS X W D F ad S H (k c S1) := by
  simp only [lft] at h
  cases e : m S with
  | ok c S1 => rw [e] at h; exact ⟨c, S1, rfl, h⟩
  | ex x S1 => exact (hx x S1 e).elim
  | no => rw [e] at h; exact h.elim
theorem fs_dput {pos' : Pos} {c : Expr} {f3 : Env → M D} (hu : X.A.units + 1 < cLine) (ho : FE X W a f1) (hi : FE X W b f2) (hv : FE X W c f3) (hs : swapsWith c (some (.Subscript a b pos')) pos.line X.env = pure false) :
    FS X W (.Assign [.Subscript a b pos'] c pos) (dput f1 f2 f3) := by
  refine ⟨PS.weakI (ps_dput hu ho.run hi.run hv.run hs) fun D σ H hl ⟨F, ad, env, S, re, rs, h⟩ => ⟨F, ad, env, S, re, rs, FinS.seqE re hl h fun F1 ad1 S1 d v H1 n1 re1 rs1 dp1 h1 => ?_⟩⟩
  refine ⟨F1, ad1, env, S1, re1, rs1, FinS.seqE re1 hl h1 fun F2 ad2 S2 x u H2 n2 re2 rs2 dp2 h2 => ?_⟩
  refine ⟨F2, ad2, env, S2, re2, rs2, FinS.seqE re2 hl h2 fun F3 ad3 S3 y w H3 n3 re3 rs3 dp3 h3 => ?_⟩
  obtain ⟨cc, S4, e4, h3⟩ := FinS.look h3 fun _ _ => objK_ex
  obtain ⟨rfl, q, vs, rfl, hH, dk⟩ := objK_at rs3 (DP.mono n3.gr x u dp2) e4
  obtain ⟨k, S5, e5, h3⟩ := FinS.look h3 fun _ _ => opt_ex
  obtain ⟨rfl, e6⟩ := opt_ok e5
  have ew := keyOf_V dp3 e6
  subst ew
  have h3 : FinS X W D F3 ad3 S5 H3 (if cc.2.length < sizeLine then .ok (.nx env) (S5.set cc.1 (some (.dct (putD cc.2 k d)))) else .no) := h3
  split at h3
  · rename_i cl
    refine ⟨_, _, rfl, DPut.k hH (by rw [← dk.length]; exact cl), ?_⟩
    refine h3 σ F3 ad3 _ (Nx.put rs3 q) (rs3.put q ⟨_, rfl, dk.put (DP.mono (n2.trans n3).gr d v dp1)⟩) (by rw [List.length_set]; exact re3) hl
  · exact h3.elim
/-- {k: e, ..}, the keys written -/
def FP (X : Cx) (W : WX) (pos : Pos) (keys : List (Option Expr)) (values : List Expr) (ks : List Key) (t : Env → M (List D)) : Prop := ∃ trs, PPs X pos keys values trs ∧
  ∀ σ F ad env S H (Q : List (V × V) → Hp → Prop), RE X.K F ad S.length env σ → RS X.K F ad S H → Fin X W (fun F ad L ds ps => ∃ vs, DPs X.K F ad L ds vs ∧ ds.length = ks.length ∧ ps = (ks.map kV).zip vs) σ F ad S H (t env S) Q → tPairs trs σ H Q
theorem fp_nil : FP X W pos [] [] [] (fun _ => pur []) := ⟨_, pps_nil, fun σ F ad env S H Q re rs h => Fin.pure rs h ⟨[], rfl, rfl, rfl⟩⟩
theorem fp_cons {kx vx : Expr} {ks : List (Option Expr)} {vs : List Expr} {k : Key} {kl : List Key} (hk : PE X kx (tC (kV k))) (hv : FE X W vx f) (hr : FP X W pos ks vs kl t) : FP X W pos (some kx :: ks) (vx :: vs) (k :: kl) (cns f t) := by
  obtain ⟨trs, p1, p2⟩ := hr
  refine ⟨_, pps_cons hk hv.run p1, fun σ F ad env S H Q re rs h => ⟨F, ad, env, S, re, rs, Fin.seq re h fun F1 ad1 S1 d v H1 n1 re1 rs1 dp1 h1 => ?_⟩⟩
  refine p2 σ F1 ad1 env S1 H1 _ re1 rs1 (Fin.seq re1 h1 fun F2 ad2 S2 ds ps H2 n2 re2 rs2 ⟨us, du, el, ep⟩ h2 => ?_)
  subst ep
  exact Fin.pure rs2 h2 ⟨v :: us, ⟨v, us, rfl, DP.mono n2.gr d v dp1, du⟩, by simp [el], rfl⟩
def mergeD (kvs more : List (Key × D)) : List (Key × D) := more.foldl (fun acc kv => putD acc kv.1 kv.2) kvs
theorem DPk.merge {K F ad L} : ∀ {ds : List (Key × D)} {vs : List (Key × V)} {es : List (Key × D)} {us : List (Key × V)}, DPk K F ad L ds vs → DPk K F ad L es us → DPk K F ad L (mergeD es ds) (mergeK us vs)
  | [], _, _, _, h, g => by cases h; exact g
  | (j, x) :: ds, _, es, us, ⟨u, r, e, h1, h2⟩, g => by
    subst e
    show DPk K F ad L (mergeD (putD es j x) ds) (mergeK (putK us j u) r)
    exact DPk.merge h2 (g.put h1)
theorem DPk.zip {K F ad L} : ∀ {ks : List Key} {ds : List D} {vs : List V}, DPs K F ad L ds vs → DPk K F ad L (ks.zip ds) (ks.zip vs)
  | [], _, _, _ => by simp [DPk]
  | _ :: _, [], _, h => by cases h; simp [DPk]
  | k :: ks, d :: ds, _, ⟨v, r, e, h1, h2⟩ => by
    subst e
    exact ⟨v, _, rfl, h1, DPk.zip h2⟩
def dspD (ks : List Key) (t : Env → M (List D)) : Env → M D := fun env => bd (t env) fun ds => mkO (.dct (mergeD [] (ks.zip ds)))
theorem fe_dict {keys : List (Option Expr)} {values : List Expr} {ks : List Key} (hp : FP X W pos keys values ks t) (hall : keys.all (·.isSome) = true) (hl : keys.length = values.length) (h0 : keys ≠ []) (h15 : keys.length ≤ 15) (hks : ks.length ≤ 15) :
    FE X W (.Dict keys values pos) (dspD ks t) := by
  obtain ⟨trs, p1, p2⟩ := hp
  refine ⟨PE.weak (pe_disp p1 hall hl h0 h15) fun σ H Q ⟨F, ad, env, S, re, rs, h⟩ p hp => ?_⟩
  have nl : ¬ Live S ad p := fun ⟨n, od, e, z⟩ => by
    obtain ⟨_, u, h2, _⟩ := rs.liv n od e
    rw [z, hp] at h2; cases h2
  have rs0 := rs.priv (o := .dK []) (F_none rs hp) nl (none_ne hp)
  -- the parts, evaluated beside the empty dict
  refine p2 σ F ad env S _ _ re rs0 ?_
  simp only [dspD, bd] at h
  cases e : t env S with
  | no => rw [e] at h; exact h.elim
  | ex x S1 =>
    rw [e] at h
    exact fun c dd F1 ad1 H1 n1 r1 er => h c dd F1 ad1 H1 (Nx.unpriv n1 hp) r1 er
  | ok ds S1 =>
    rw [e] at h
    intro ps F1 ad1 H1 n1 rs1 ⟨vs, dv, el, ep⟩
    obtain ⟨k1, k2, k3⟩ := n1.still upd_same (F_none rs hp) nl dk_ne.1
    refine ⟨k1, ks.zip vs, ?_, ?_, ?_⟩
    · rw [ep]
      have : ∀ (ks : List Key) (vs : List V), (ks.map kV).zip vs = (ks.zip vs).map fun kv => (kV kv.1, kv.2) := fun ks => by
        induction ks with
        | nil => intro vs; rfl
        | cons k ks ih =>
          intro vs
          cases vs with
          | nil => rfl
          | cons v vs => rw [List.map_cons, List.zip_cons_cons, List.zip_cons_cons, List.map_cons, ih]
      exact this ks vs
    · rw [List.length_zip]; omega
    · have n2 : Nx F ad S H F1 ad1 S1 H1 := Nx.unpriv n1 hp
      have rs2 := rs1.priv (o := .dK (mergeK [] (ks.zip vs))) k2 k3 (some_nk k1)
      have n3 : Nx F ad S H F1 ad1 S1 (upd H1 p (.dK (mergeK [] (ks.zip vs)))) := n2.priv hp
      exact h (.ref p) F1 _ _ (n3.enrol hp) (rs2.enrol upd_same k2 k3 ⟨_, rfl, DPk.merge (DPk.zip dv) rfl⟩) ⟨by simp, by rw [adn_same]⟩
end
end Fx

end
/-! ## Fx8 -/
section
namespace Fx
open PySem PySem.Spec PyProof.Rows L2
variable [tb : Tabl]
/-! ### texts in order -/
def leS (a b : Str) : Bool := !ltCps b.cps.toList a.cps.toList
theorem leS_iff {a b : Str} : leS a b = true ↔ ¬ b.cps.toList < a.cps.toList := by unfold leS; rw [ltCps_eq]; simp
theorem leS_total (a b : Str) : (leS a b || leS b a) = true := by
  rw [Bool.or_eq_true, leS_iff, leS_iff]
  by_cases h : b.cps.toList < a.cps.toList
  · exact .inr (List.lt_asymm h)
  · exact .inl h
theorem leS_trans (a b c : Str) (h1 : leS a b = true) (h2 : leS b c = true) : leS a c = true := by
  rw [leS_iff] at *
  exact fun h => by
    have h1 : a.cps.toList ≤ b.cps.toList := h1
    have h2 : b.cps.toList ≤ c.cps.toList := h2
    have h3 : a.cps.toList ≤ c.cps.toList := List.le_trans h1 h2
    exact h3 h
theorem leS_antisymm {a b : Str} (h1 : leS a b = true) (h2 : leS b a = true) : a = b := by
  rw [leS_iff] at *
  have h1 : a.cps.toList ≤ b.cps.toList := h1
  have h2 : b.cps.toList ≤ a.cps.toList := h2
  have e : a.cps.toList = b.cps.toList := List.le_antisymm h1 h2
  obtain ⟨⟨x⟩⟩ := a
  obtain ⟨⟨y⟩⟩ := b
  simp only at e
  rw [e]
def srt (xs : List Str) : List Str := xs.mergeSort leS
theorem rising_iff : ∀ (xs : List Str) (p : Str), risingS p xs = true → (p :: xs).Pairwise (fun a b => leS a b = true)
  | [], p, _ => by simp
  | x :: xs, p, h => by
    unfold risingS at h
    rw [Bool.and_eq_true] at h
    have ih := rising_iff xs x h.2
    refine List.pairwise_cons.mpr ⟨fun y hy => ?_, ih⟩
    have hx : leS p x = true := h.1
    rcases List.mem_cons.mp hy with rfl | hy
    · exact hx
    · exact leS_trans p x y hx ((List.pairwise_cons.mp ih).1 y hy)
theorem sorted_pw {xs : List Str} (h : sortedS xs = true) : xs.Pairwise (fun a b => leS a b = true) := by
  cases xs with
  | nil => exact .nil
  | cons x r => exact rising_iff r x h
theorem pw_unique : ∀ {xs ys : List Str}, xs.Pairwise (fun a b => leS a b = true) → ys.Pairwise (fun a b => leS a b = true) → xs.Perm ys → xs = ys
  | [], ys, _, _, p => by rw [List.Perm.nil_eq p]
  | x :: xs, [], _, _, p => by have := p.length_eq; simp at this
  | x :: xs, y :: ys, h1, h2, p => by
    have q1 := List.pairwise_cons.mp h1
    have q2 := List.pairwise_cons.mp h2
    have hx : x ∈ y :: ys := p.mem_iff.mp List.mem_cons_self
    have hy : y ∈ x :: xs := p.mem_iff.mpr List.mem_cons_self
    have e : x = y := by
      rcases List.mem_cons.mp hx with e | hx
      · exact e
      · rcases List.mem_cons.mp hy with e | hy
        · exact e.symm
        · exact leS_antisymm (q1.1 y hy) (q2.1 x hx)
    subst e
    rw [pw_unique q1.2 q2.2 (List.Perm.cons_inv p)]
theorem srt_eq {xs ys : List Str} (p : ys.Perm xs) (s : sortedS ys = true) : ys = srt xs :=
  pw_unique (sorted_pw s) (List.pairwise_mergeSort leS_trans leS_total xs) (p.trans (List.mergeSort_perm xs leS).symm)

section
variable {X : Cx} {W : WX} {pos p : Pos} {e a b : Expr} {es : List Expr} {f f1 f2 : Env → M D} {t : Env → M (List D)}
/-- sorted(..) of texts, or of a dict's keys -/
def keysS : List (Key × D) → Option (List Str)
  | [] => some []
  | (.inr x, _) :: r => match keysS r with
    | some xs => some (x :: xs)
    | none => none
  | _ => none
theorem keysS_at {K F ad L} : ∀ {ds : List (Key × D)} {vs : List (Key × V)} {ks : List Str}, DPk K F ad L ds vs → keysS ds = some ks → vs.map (·.1) = ks.map Sum.inr
  | [], _, _, h, e => by cases h; cases e; rfl
  | (.inr x, d) :: ds, _, _, ⟨v, r, e1, h1, h2⟩, e => by
    simp only [keysS] at e
    split at e
    · rename_i xs q
      cases e
      subst e1
      rw [List.map_cons, List.map_cons, keysS_at h2 q]
    · cases e
  | (.inl x, d) :: ds, _, _, h, e => by simp [keysS] at e
def srtM (mk : List D → M D) (xs : List Str) : M D := if xs.length < 64 then mk ((srt xs).map D.str) else mno
def sortedD (mk : List D → M D) : List D → M D
  | [.obj n] => fun S => match S[n]? with
    | some (some (.lst ds)) => bd (opt (strsOf ds)) (srtM mk) S
    | some (some (.dct kvs)) => bd (opt (keysS kvs)) (srtM mk) S
    | _ => .no
  | [d] => bd (seqL d) fun ds => bd (opt (strsOf ds)) (srtM mk)
  | _ => mno
theorem dps_strs {K F ad L} : ∀ ys : List Str, DPs K F ad L (ys.map D.str) (ys.map V.str)
  | [] => rfl
  | y :: ys => ⟨.str y, ys.map V.str, rfl, rfl, dps_strs ys⟩
theorem srt_go {mk : List D → M D} (hm : MkOk X mk) {σ : L2.St} {F ad S H} {xs : List Str} {Q : VK} (rs : RS X.K F ad S H) (h : Fin X W (DP X.K) σ F ad S H (srtM mk xs S) Q) :
    xs.length < 64 ∧ ∀ (ys : List Str) (p : Addr), ys.Perm xs → sortedS ys = true → H p = none → Q (.ref p) (upd H p (.lst (ys.map V.str))) := by
  unfold srtM at h
  split at h
  · rename_i c
    refine ⟨c, fun ys p hp hs hn => ?_⟩
    have := srt_eq hp hs
    subst this
    exact (hm W σ F ad S H Q _ _ rs (dps_strs _) h).2 p hn
  · exact h.elim
theorem cf_sorted {mk : List D → M D} (hm : MkOk X mk) (hc : X.calm = true) : CallF X (.builtin "sorted") (sortedD mk) := by
  refine ⟨_, cr_sortedS.or (call_sortedD hc), fun W σ F ad S H ds vs Q rs dp h => ?_⟩
  unfold sortedD at h
  split at h
  · obtain ⟨v, rfl, hn, rfl⟩ := dp.one_inv
    split at h
    · rename_i xs q
      obtain ⟨h1, o, h2, us, h3, h4⟩ := rs.liv _ _ q
      subst h3
      obtain ⟨ss, S2, e2, h⟩ := Fin.look h fun _ _ => opt_ex
      obtain ⟨rfl, e3⟩ := opt_ok e2
      have := strsOf_at h4 e3
      subst this
      obtain ⟨c, k⟩ := srt_go hm rs h
      exact .inl ⟨_, ss, rfl, SqL.of h2, c, k⟩
    · rename_i xs q
      obtain ⟨h1, o, h2, us, h3, h4⟩ := rs.liv _ _ q
      subst h3
      obtain ⟨ss, S2, e2, h⟩ := Fin.look h fun _ _ => opt_ex
      obtain ⟨rfl, e3⟩ := opt_ok e2
      obtain ⟨c, k⟩ := srt_go hm rs h
      exact .inr ⟨_, us, ss, rfl, .inl h2, keysS_at h4 e3, c, k⟩
    · exact h.elim
  · obtain ⟨v, rfl, d1⟩ := dp.one_inv
    obtain ⟨xs, S1, e1, h⟩ := Fin.look h fun _ _ => seqL_ex
    obtain ⟨rfl, a, us, rfl, h1, h2⟩ := seqL_at rs d1 e1
    obtain ⟨ss, S2, e2, h⟩ := Fin.look h fun _ _ => opt_ex
    obtain ⟨rfl, e3⟩ := opt_ok e2
    have := strsOf_at h2 e3
    subst this
    obtain ⟨c, k⟩ := srt_go hm rs h
    exact .inl ⟨a, ss, rfl, h1, c, k⟩
  · exact h.elim
/-! ### dict(list of pairs) -/
def pairsK : List D → Option (List (Key × D))
  | [] => some []
  | .tup [k, d] :: r => match keyOf k, pairsK r with
    | some j, some kvs => some ((j, d) :: kvs)
    | _, _ => none
  | _ => none
theorem pairsK_at {F ad L} {H : Hp} (sub : ∀ a o, F a = some o → H a = some o) : ∀ {ds : List D} {vs : List V} {kvs : List (Key × D)}, DPs X.K F ad L ds vs → pairsK ds = some kvs →
    ∃ (ps : List Addr) (us : List (Key × V)), vs = ps.map V.ref ∧ DPk X.K F ad L kvs us ∧ Paired (fun p (kv : Key × V) => SqT X.K H p [kV kv.1, kv.2]) ps us
  | [], _, _, h, e => by cases h; cases e; exact ⟨[], [], rfl, rfl, .nil⟩
  | d :: ds, _, _, ⟨v, r, e1, h1, h2⟩, e => by
    unfold pairsK at e
    split at e
    · cases e; rename_i q; cases q
    · rename_i k d' r' q
      cases q
      split at e
      · rename_i j kvs' q1 q2
        cases e
        obtain ⟨a, xs, rfl, s1, y, z, rfl, dk, y2, z2, rfl, dd, z3⟩ := h1
        cases z3
        obtain ⟨ps, us, rfl, dp, pr⟩ := pairsK_at sub h2 q2
        have ey := keyOf_V dk q1
        subst ey
        subst e1
        exact ⟨a :: ps, (j, y2) :: us, rfl, ⟨y2, us, rfl, dd, dp⟩, .cons (sqT_mono sub s1.sq) pr⟩
      · cases e
    · cases e
theorem pick_all {α β : Type} : ∀ {l : List α} {P : Nat → α → β → Prop}, (∀ j q, l[j]? = some q → ∃ u, P j q u) → ∃ us : List β, us.length = l.length ∧ ∀ j q, l[j]? = some q → ∃ u, us[j]? = some u ∧ P j q u
  | [], _, _ => ⟨[], rfl, fun j q e => by simp at e⟩
  | x :: l, P, h => by
    obtain ⟨u, hu⟩ := h 0 x rfl
    obtain ⟨us, h1, h2⟩ := pick_all (l := l) (P := fun j => P (j + 1)) fun j q e => h (j + 1) q (by simpa using e)
    refine ⟨u :: us, by simp [h1], fun j q e => ?_⟩
    cases j with
    | zero => cases e; exact ⟨u, rfl, hu⟩
    | succ j => simpa using h2 j q (by simpa using e)
/-- dict(t) of a tuple of pairs -/
theorem call_dictT (hcalm : X.calm = true) : CallR X (.type "dict") (fun xs H Q => ∃ (a : Addr) (ps : List Addr) (kvs : List (Key × V)), xs = [.ref a] ∧ SqC X.K H a (ps.map V.ref) ∧ Paired (fun p kv => SqT X.K H p [kV kv.1, kv.2]) ps kvs ∧
    ∀ p, H p = none → Q (.ref p) (upd H p (.dK (mergeK [] kvs)))) := by
  intro pins s σ H xs us Q I r q
  obtain ⟨a, ps, kvs, ex, hq, hp, q⟩ := q
  subst ex
  obtain ⟨u, eu, rx⟩ := vals1 r
  subst eu
  cases rx
  have obj : ∃ its : List Value, Vals (ps.map V.ref) its ∧ PlainSeq "tuple" s.heap a its.toArray ∧ its.length ≤ sizeLine := by
    rcases hq with ⟨o, h1, h2⟩ | ⟨o, its, n, h1, h2, h3, h4, h5, h6⟩
    · obtain ⟨g1, z, its, r, o', g2, g3, n, g4⟩ := I.hok a _ h1
      rw [g1] at g2
      cases g2
      exact ⟨its, r, ⟨o, n, g1, g3, h2, g4⟩, by rw [← r.length]; exact z⟩
    · exact ⟨its.toList, h6, ⟨o, n, I.kIn a o h1, h2, h3, by simpa using h4⟩, by simpa using h5⟩
  obtain ⟨its, rv, pl, hz⟩ := obj
  have ei := refs_at rv
  subst ei
  rw [List.length_map] at hz
  obtain ⟨prs, rel, hl, hpr⟩ := pairs_of I hp
  obtain ⟨kv, k1, k2⟩ := pick_all (α := Key × Value) (β := Value × Value) (l := prs) (P := fun (j : Nat) (q : Key × Value) (w : Value × Value) => w.2 = q.2 ∧ ∃ b, ps[j]? = some b ∧ IsTup s.heap b #[w.1, q.2] ∧ keyIs q.1 w.1 = true) fun j q e => by
    obtain ⟨b, u, e1, e2, e3⟩ := hpr j q e
    exact ⟨(u, q.2), rfl, b, e1, e2, e3⟩
  have back : ∀ (j : Nat) (w : Value × Value), kv[j]? = some w → ∃ q : Key × Value, prs[j]? = some q ∧ w.2 = q.2 ∧ ∃ b, ps[j]? = some b ∧ IsTup s.heap b #[w.1, q.2] ∧ keyIs q.1 w.1 = true := fun j w e => by
    have hj : j < prs.length := by rw [← k1]; exact lt_of_some e
    obtain ⟨w', e1, e2⟩ := k2 j prs[j] (List.getElem?_eq_getElem hj)
    rw [e] at e1
    cases e1
    exact ⟨_, List.getElem?_eq_getElem hj, e2⟩
  refine PySem.call_dict_pairs (knd := mixKind X.prog X.w) (kvs := prs) (PairArg.tuple a (ps.map Value.ref).toArray (fun j => ps.getD j 0) kv) (I.ok.hd hcalm) ⟨pl, by simp [k1, hl], fun j k v e => ?_⟩ ⟨k1.symm, fun i key v e => ?_⟩ (by rw [k1, hl]; exact hz) fun h' tk hd' kp => ?_
  · obtain ⟨q', f1, f2, b, f3, f4, f5⟩ := back j (k, v) e
    have f2 : v = q'.2 := f2
    subst f2
    refine ⟨by simp [f3, List.getD], .inl ?_⟩
    simp only [List.getD, f3, Option.getD_some]
    exact f4
  · obtain ⟨q', f1, f2, b, f3, f4, f5⟩ := back i (key, v) e
    have f2 : v = q'.2 := f2
    exact ⟨q'.1, by rw [f1, f2], f5⟩
  · have hm : (s.heap.objs.size == sysModules) = false := beq_eq_false_iff_ne.mpr (Nat.ne_of_gt I.big)
    have hlen : (mergeK [] kvs).length ≤ sizeLine := by
      refine Nat.le_trans (length_mergeK kvs []) ?_
      rw [List.length_nil, Nat.zero_add, rel.length, hl]
      exact hz
    exact ⟨.ref s.heap.objs.size, upd H s.heap.objs.size (.dK (mergeK [] kvs)), I.laid (t' := tk) (fun b o e => kp b o (by simp) e) (Nat.le_refl _) (show ObjOk X.prog X.w _ _ _ (.dK (mergeK [] kvs)) from ⟨hlen, hm, merged [] prs, KV.merge rel .nil, hd'⟩), rfl, q _ (I.hok.fresh (Nat.le_refl _))⟩
def dictD : List D → M D
  | [.tup ds] => bd (opt (pairsK ds)) fun kvs => mkO (.dct (mergeD [] kvs))
  | [d] => bd (seqL d) fun ds => bd (opt (pairsK ds)) fun kvs => mkO (.dct (mergeD [] kvs))
  | _ => mno
theorem cf_dict (hc : X.calm = true) : CallF X (.type "dict") dictD := by
  refine ⟨_, (call_dictP hc).or (call_dictT hc), fun W σ F ad S H ds vs Q rs dp h => ?_⟩
  unfold dictD at h
  split at h
  · obtain ⟨v, rfl, a, us, rfl, h1, h2⟩ := dp.one_inv
    obtain ⟨kvs, S2, e2, h⟩ := Fin.look h fun _ _ => opt_ex
    obtain ⟨rfl, e3⟩ := opt_ok e2
    obtain ⟨ps, ws, rfl, dk, pr⟩ := pairsK_at rs.sub h2 e3
    exact .inr ⟨a, ps, ws, rfl, sqC_mono rs.sub h1, pr, fin_mkO (od := .dct (mergeD [] kvs)) rs ⟨_, rfl, DPk.merge dk rfl⟩ h⟩
  · obtain ⟨v, rfl, d1⟩ := dp.one_inv
    obtain ⟨xs, S1, e1, h⟩ := Fin.look h fun _ _ => seqL_ex
    obtain ⟨rfl, a, us, rfl, h1, h2⟩ := seqL_at rs d1 e1
    obtain ⟨kvs, S2, e2, h⟩ := Fin.look h fun _ _ => opt_ex
    obtain ⟨rfl, e3⟩ := opt_ok e2
    obtain ⟨ps, ws, rfl, dk, pr⟩ := pairsK_at rs.sub h2 e3
    exact .inl ⟨a, ps, ws, rfl, h1, pr, fin_mkO (od := .dct (mergeD [] kvs)) rs ⟨_, rfl, DPk.merge dk rfl⟩ h⟩
  · exact h.elim
/-! ### repr -/
theorem call_repr (hG : X.A.guards = some []) (hu : X.A.units + 66 < cLine) : CallR X (.builtin "repr") (fun xs H Q => ∃ v p, xs = [v] ∧ Dp X.K H v p ∧ p.showable = true ∧ p.hasDict = false ∧ p.depth ≤ 64 ∧ p.shown.length ≤ sizeLine ∧ Q (.str p.shown) H) := by
  intro pins s σ H xs us Q I r h
  obtain ⟨v, d, rfl, dp, hs, hd, hdep, hz, q⟩ := h
  obtain ⟨u, rfl, ru⟩ := vals1 r
  obtain ⟨as, rd⟩ := Dp.reads I d v u dp ru
  cases d with
  | none => cases dp; cases ru; exact PySem.P.repr_of_none ⟨.str "None", H, I.tok _, ⟨_, rfl⟩, q⟩
  | bool b => cases dp; cases ru; exact PySem.P.repr_of_bool ⟨.str (if b then "True" else "False"), H, I.tok _, ⟨_, rfl⟩, q⟩
  | int i =>
    cases dp
    obtain ⟨tk, rfl⟩ := ru
    exact PySem.P.repr_of_int (by simpa [PyData.showable] using hs) ⟨.str (toString i), H, I.tok _, ⟨_, rfl⟩, q⟩
  | str x =>
    cases dp
    obtain ⟨tk, rfl⟩ := ru
    exact PySem.P.repr_of_str ⟨.str (reprText x), H, I.tok _, ⟨_, rfl⟩, q⟩ (by simpa [PyData.shown] using hz)
  | dict _ => cases dp
  | list ds =>
    cases dp with
    | lst hs1 ha =>
      cases ru
      exact repr_of_reads' rd hs (PyData.noDict_hsm hd) hG (by omega) (fun _ _ z => z) (fun h' u tk hk => ⟨.str _, H, I.kept (t' := tk) hk, ⟨u, rfl⟩, q⟩) hz
  | tuple ds =>
    cases dp with
    | tup hs1 ha =>
      cases ru
      exact repr_of_reads' rd hs (PyData.noDict_hsm hd) hG (by omega) (fun _ _ z => z) (fun h' u tk hk => ⟨.str _, H, I.kept (t' := tk) hk, ⟨u, rfl⟩, q⟩) hz
def shows (p : PyData) : Prop := p.showable = true ∧ p.hasDict = false ∧ p.depth ≤ 64 ∧ p.shown.length ≤ sizeLine
instance (p : PyData) : Decidable (shows p) := inferInstanceAs (Decidable (_ ∧ _))
def reprD : List D → M D
  | [d] => bd (pyM d) fun p => if shows p then pur (.str p.shown) else mno
  | _ => mno
theorem cf_repr (hG : X.A.guards = some []) (hu : X.A.units + 66 < cLine) : CallF X (.builtin "repr") reprD := by
  refine ⟨_, call_repr hG hu, fun W σ F ad S H ds vs Q rs dp h => ?_⟩
  unfold reprD at h
  split at h
  · obtain ⟨v, rfl, d1⟩ := dp.one_inv
    obtain ⟨q, S1, e1, h⟩ := Fin.look h fun _ _ => pyM_ex
    obtain ⟨rfl, dq⟩ := pyM_at rs d1 e1
    split at h
    · rename_i c
      exact ⟨v, q, rfl, dq, c.1, c.2.1, c.2.2.1, c.2.2.2, Fin.pure rs h rfl⟩
    · exact h.elim
  · exact h.elim
end
end Fx

end
/-! ## Fx9 -/
section
namespace Fx
open PySem PySem.Spec PyProof.Rows L2
variable [tb : Tabl]

/-! ### a def by its body -/
/-- the slots at the entry -/
def ent (n : Nat) (ds : List D) : Env := ds.map some ++ List.replicate (n - ds.length) none
theorem re_ent {K F ad L} {N : List Str} {ds : List D} {vs : List V} (h : DPs K F ad L ds vs) : RE K F ad L (ent N.length ds) (L2.start N vs) := fun i d e => by
  unfold ent at e
  unfold L2.start
  by_cases hi : i < ds.length
  · rw [List.getElem?_append_left (by simpa using hi), List.getElem?_map] at e
    cases q : ds[i]? with
    | none => rw [q] at e; cases e
    | some d' =>
      rw [q] at e; cases e
      obtain ⟨v, e1, e2⟩ := h.at q
      exact ⟨v, by rw [List.getElem?_append_left (by simpa using lt_of_some e1), List.getElem?_map, e1]; rfl, e2⟩
  · rw [List.getElem?_append_right (by simpa using hi), List.getElem?_replicate] at e
    split at e <;> cases e
/-- what the body's function says of the def -/
def bodyD (n m : Nat) (b : Env → MS) : List D → M D := fun ds S => if ds.length = m then (match b (ent n ds) S with
  | .ok (.rt d) S' => .ok d S'
  | .ok (.nx _) S' => .ok .non S'
  | .ex e _ S' => .ex e S'
  | _ => .no) else .no
/-- the context of a def's body -/
abbrev bodyCx (P : Program) (w : World) (K : PySem.W.Frag) (mg : Str → Option Value) (base : Heap) (N : List Str) (qual : Str) (scope : Scope) (f : Addr) (cd : Value) (A : Around) (outer : List PySem.Env) (s : Shared) (H : Hp) (E : XK) : Cx :=
  cxOf (L2.CX P w) P w K mg base N qual scope f cd A outer s H E
abbrev WE (E : XK) : WX := fun cls d _ H => E cls d H
section
variable {P : Program} {w : World} {K : PySem.W.Frag} {mg : Str → Option Value} {base : Heap}
theorem fn_body {b0 : Bool} {x qual : Str} {st : Stmt} {f : Addr} {fd : FuncData} {N ps : List Str} {k : Nat} {b : Env → MS} (F : Fun K x qual st f fd) (S : FnScope N ps (defScope st))
    (hbody : ∀ (cd : Value) (A : Around) (outer : List PySem.Env) (s : Shared) (H : Hp) (E : XK), (∃ o, K.lookup f = some o ∧ o.data = .func fd ∧ fd.code = cd) → (b0 = true → A.guards = some []) → Room k (A.deeper (envOfC qual (defScope st) s.heap.objs.size f cd)) →
      FSs (bodyCx P w K mg base N qual (defScope st) f cd A outer s H E) (WE E) (defBody st) b) : FnG b0 P w K mg base (k + 1) f fd ps (bodyD N.length ps.length b) := by
  obtain ⟨oc, od, kV, doc, pm, an, cd, ct, osl, rfl, lk, hcd⟩ := F.ex
  have hlen : ∀ vs H Q E, spF K mg (bodyD N.length ps.length b) vs H Q E → vs.length = ps.length := fun vs H Q E ⟨F', ad, S', ds, _, dp, h⟩ => by
    by_cases e : ds.length = ps.length
    · rw [← e, dp.length]
    · simp only [bodyD, if_neg e] at h
  refine ⟨hlen, fun A outer s H args us vs Q E hG room env0 bind rv want => ?_⟩
  have inK : K.In s.heap := env0.mod.kin.keeps fun c o z => (env0.bs c o z).1
  have noLim : s.heap.NoLimit := env0.mod.nolimit.keeps fun c o z => (env0.bs c o z).1
  have kinds : ∀ y ∈ ps.zip us, (defScope st).names.lookup y.1 = some .local ∨ ((defScope st).names.lookup y.1 = some .cell ∧ ((cellsFrom (s.heap.objs.size + 1) (defScope st).names []).lookup y.1).isSome = true) := by
    rintro ⟨n, v⟩ hy
    cases S.par n (List.of_mem_zip hy).1 with
    | inl z => exact Or.inl z
    | inr z => exact Or.inr ⟨z, PySem.W.cellsFrom_some _ _ _ (Or.inl z)⟩
  have body := hbody cd A outer s H E ⟨_, lk, rfl, rfl⟩ hG (room.deeper _)
  have start_ : tS (bodyCx P w K mg base N qual (defScope st) f cd A outer s H E) (WE E) b { nx := fun _ H' => Q .non H', rt := Q } (L2.start N vs) H := by
    obtain ⟨F', ad, S', ds, rs, dp, h⟩ := want
    refine ⟨F', ad, ent N.length ds, S', re_ent dp, rs, ?_⟩
    by_cases e : ds.length = ps.length
    · simp only [bodyD, if_pos e] at h
      cases q : b (ent N.length ds) S' with
      | no => rw [q] at h; exact h
      | ex x1 env1 S1 => rw [q] at h; exact fun c dd σ' F1 ad1 H1 n1 r1 _ _ er => h c dd F1 ad1 H1 n1 r1 er
      | ok fl S1 =>
        rw [q] at h
        cases fl with
        | rt d => exact h
        | nx env1 => exact fun σ' F1 ad1 H1 n1 r1 _ _ => h .non F1 ad1 H1 n1 r1 rfl
        | bk env1 => exact h.elim
        | ct env1 => exact h.elim
    · simp only [bodyD, if_neg e] at h
  refine codeAny_call_function room.depth (inK _ _ lk) rfl S.co S.gen rfl (PySem.W.codeRec_of inK hcd) (bind _ _ _ _ (wpAny_newFunctionEnv_cells S.kind kinds fun env he s1 x => ?_))
  subst he
  have I0 : Inv (bodyCx P w K mg base N qual (defScope st) f cd A outer s H E) [] (L2.start N vs) H s1 := inv_start S room.hd env0 (hlen _ _ _ _ want) rv x
  refine ⟨noLim.keeps x.toInCall.keep, codeAny_func (wpAny_mono (body.run.run [] s1 _ H _ I0 start_) (fun fl s' out => ?_) fun _ _ z => z)⟩
  cases fl with
  | brk => obtain ⟨_, _, _, z⟩ := out; exact z.elim
  | cont => obtain ⟨_, _, _, z⟩ := out; exact z.elim
  | next =>
    obtain ⟨σ', H', J, z⟩ := out
    exact (⟨V.non, H', J.os, J.bare, J.base, J.hok, rfl, z⟩ : CE outer P w H s Q Value.none s')
  | ret u =>
    obtain ⟨v, σ', H', J, ru, z⟩ := out
    exact (⟨v, H', J.os, J.bare, J.base, J.hok, ru, z⟩ : CE outer P w H s Q u s')
end
/-! ### the call of a def -/
section
variable {X : Cx} {W : WX} {k : Nat} {fa : Addr} {fd : FuncData} {ps : List Str} {g : List D → M D} {x : Str} {pos p : Pos} {e : Expr} {es : List Expr} {t : Env → M (List D)}
theorem fin_sp {σ : L2.St} {F ad S H} {ds : List D} {vs : List V} {Q : VK} (rs : RS X.K F ad S H) (dp : DPs X.K F ad S.length ds vs) (h : Fin X W (DP X.K) σ F ad S H (g ds S) Q) : spF X.K X.mg g vs H Q (fun cls dd H' => W cls dd σ H') := by
  refine ⟨F, ad, S, ds, rs, dp, ?_⟩
  cases q : g ds S with
  | no => rw [q] at h; exact h
  | ok d S1 => rw [q] at h; exact h
  | ex x1 S1 => rw [q] at h; exact h
theorem run_call {b0 : Bool} {pins : List (Addr × Obj)} {σ : L2.St} {H : Hp} {s : Shared} {Q : VK} {us : List Value} {vs : List V} (G : FnG b0 X.prog X.w X.K X.mg X.base k fa fd ps g) (hG : b0 = true → X.A.guards = some []) (hr : Room k X.A) (hb : Binds X.K fd ps []) (tk : Takes X W)
    (I : Inv X pins σ H s) (r : Vals vs us) (h : spF X.K X.mg g vs H Q (fun cls dd H' => W cls dd σ H')) : wpAny (model X.prog X.w) X.A (call (.ref fa) us) (EP X pins σ Q) X.xe s := by
  have hl : us.length = ps.length := by rw [← r.length]; exact G.len _ _ _ _ h
  have bind := hb s us I.kIn (by rw [List.append_nil]; exact hl)
  rw [List.append_nil] at bind
  refine wpAny_call (codeAny_mono (G.run X.A X.stack s H ⟨us, []⟩ us vs Q _ hG hr I.env0 bind r h) fun res s' out => ?_)
  match res, out with
  | .error z, out => exact tk z s' (XE.of_call I (fun _ _ _ q => q) out)
  | .ok (.ret u), out => exact I.after out
theorem fe_call {b0 : Bool} (G : FnG b0 X.prog X.w X.K X.mg X.base k fa fd ps g) (hG : b0 = true → X.A.guards = some []) (hr : Room k X.A) (hg : Gl X x) (hm : X.mg x = some (.ref fa)) (hk : PySem.W.keepIn X.K (.ref fa) = true) (hb : Binds X.K fd ps []) (tk : Takes X W)
    (ha : FA X W (e :: es) t) (hdb : (x == ("__debug__" : Str)) = false := by decide) (he : starEach (e :: es) X.env = (false, eval e X.env) :: starEach es X.env := by rfl) (hpl : (backTo pos (starEach es X.env)).any (·.1) = false := by rfl) :
    FE X W (.Call (.Name x p) (e :: es) [] pos) (cal t g) := by
  refine ⟨⟨fun pins s σ H Q I ⟨F, ad, env, S, re, rs, h⟩ => ?_⟩⟩
  have args : tL X W t σ H (fun vs H1 => spF X.K X.mg g vs H1 Q fun cls dd H' => W cls dd σ H') := ⟨F, ad, env, S, re, rs, Fin.seq re h fun F1 ad1 S1 ds vs H1 n1 re1 rs1 dp1 h1 => fin_sp rs1 dp1 h1⟩
  exact wpAny_Call_Name_kw (ld_glob I hg hm (PySem.W.callWith_K (h₀ := X.base) I.ok.mod.kin hk (thn (ha.run.run pos pins s σ H _ I args) fun us s1 ⟨vs, H1, I1, r, q⟩ => ⟨I1.kIn, run_call G hG hr hb tk I1 r q⟩) he hpl) hdb)
theorem fe_call0 {b0 : Bool} (G : FnG b0 X.prog X.w X.K X.mg X.base k fa fd ps g) (hG : b0 = true → X.A.guards = some []) (hr : Room k X.A) (hg : Gl X x) (hm : X.mg x = some (.ref fa)) (hk : PySem.W.keepIn X.K (.ref fa) = true) (hb : Binds X.K fd ps []) (tk : Takes X W)
    (hdb : (x == ("__debug__" : Str)) = false := by decide) : FE X W (.Call (.Name x p) [] [] pos) (fun _ => g []) := by
  refine ⟨⟨fun pins s σ H Q I ⟨F, ad, env, S, re, rs, h⟩ => ?_⟩⟩
  exact wpAny_Call_Name_kw (ld_glob I hg hm (PySem.W.callWith_K0 I.kIn hk (run_call (us := []) G hG hr hb tk I .nil (fin_sp rs (show DPs X.K F ad S.length [] [] from rfl) h))) hdb)
/-- nothing may be let out within a comprehension -/
theorem tk0 : Takes X W0 := takes0
end
/-! ### plain again -/
section
variable {X : Cx} {W : WX} {sts : List Stmt} {b : Env → MS}
def frzV (i : Nat) (b : Env → MS) : Env → MS := fun env S => match env[i]? with
  | some (some (.obj n)) => match S[n]? with
    | some (some (.lst xs)) => b (env.set i (some (.lst xs))) (S.set n none)
    | _ => .no
  | _ => .no
theorem fss_frz (i : Nat) (h : FSs X W sts b) : FSs X W sts (frzV i b) := by
  refine ⟨PSs.weakI h.run fun D σ H hl ⟨F, ad, env, S, re, rs, hf⟩ => ?_⟩
  unfold frzV at hf
  split at hf
  · rename_i n e1
    split at hf
    · rename_i xs e2
      obtain ⟨v, e3, hn, ev⟩ := re i _ e1
      obtain ⟨h1, o, h2, vs, h3, h4⟩ := rs.liv n _ e2
      subst h3 ev
      have g : Gr F ad S.length (upd F (ad n) (.lst vs)) ad S.length := Gr.alloc h1
      refine ⟨upd F (ad n) (.lst vs), ad, env.set i (some (.lst xs)), S.set n none, fun j d q => ?_, rs.frz e2 h2, FinS.from (Nx.frz rs e2) hf⟩
      rw [List.length_set]
      by_cases hj : i = j
      · subst hj
        rw [List.getElem?_set_self (lt_of_some e1)] at q
        cases q
        exact ⟨_, e3, ad n, vs, rfl, upd_same, DPs.mono g _ _ h4⟩
      · rw [List.getElem?_set_ne hj] at q
        obtain ⟨w, q1, q2⟩ := re j d q
        exact ⟨w, q1, DP.mono g d w q2⟩
    · exact hf.elim
  · exact hf.elim
end
end Fx

end
/-! ## Fx10 -/
section
namespace Fx
open PySem PySem.Spec PyProof.Rows L2
variable [tb : Tabl]

/-! ### keywords alone: f(k = e, ..) -/
def pk {α : Type} (ix : List Nat) (l : List α) : List α := ix.filterMap fun i => l[i]?
theorem DPs.pk {K F ad L} {ds : List D} {vs : List V} (h : DPs K F ad L ds vs) (ix : List Nat) : DPs K F ad L (Fx.pk ix ds) (Fx.pk ix vs) := h.fm ix
theorem vals_pk {vs : List V} {us : List Value} (h : Vals vs us) (ix : List Nat) : Vals (Fx.pk ix vs) (Fx.pk ix us) := vals_fm h ix
def KB (K : PySem.W.Frag) (fd : FuncData) (ps ks : List Str) (ix : List Nat) : Prop := ∀ (s : Shared) (ws : List Value), K.In s.heap → ws.length = ks.length → BindsTo s fd ⟨[], ks.zip ws⟩ (ps.zip (Fx.pk ix ws))
section
variable {X : Cx} {W : WX} {k : Nat} {fa : Addr} {fd : FuncData} {ps ks : List Str} {g : List D → M D} {x : Str} {pos p : Pos} {e : Expr} {es : List Expr} {f : Env → M D} {t : Env → M (List D)} {kws : List Keyword} {ix : List Nat}
structure FK (X : Cx) (W : WX) (kws : List Keyword) (t : Env → M (List D)) : Prop where
  run : PK X kws (tL X W t)
theorem fk_nil : FK X W [] (fun _ => pur []) := ⟨⟨fun pos pins s σ H Q I ⟨F, ad, env, S, re, rs, h⟩ => pk_nil.run pos pins s σ H Q I (Fin.pure rs h rfl)⟩⟩
theorem fk_cons {nm : Option Str} {kp : Pos} (he : FE X W e f) (hr : FK X W kws t) : FK X W (⟨nm, e, kp⟩ :: kws) (cns f t) := by
  refine ⟨⟨fun pos pins s σ H Q I ⟨F, ad, env, S, re, rs, h⟩ => (pk_cons he.run hr.run).run pos pins s σ H Q I ?_⟩⟩
  refine ⟨F, ad, env, S, re, rs, Fin.seq re h fun F1 ad1 S1 d v H1 n1 re1 rs1 dp1 h1 => ⟨F1, ad1, env, S1, re1, rs1, Fin.seq re1 h1 fun F2 ad2 S2 ds vs H2 n2 re2 rs2 dp2 h2 => ?_⟩⟩
  exact Fin.pure (v := v :: vs) rs2 h2 ⟨v, vs, rfl, DP.mono n2.gr d v dp1, dp2⟩
def calK (n : Nat) (ix : List Nat) (t : Env → M (List D)) (g : List D → M D) : Env → M D := fun env => bd (t env) fun ds => if ds.length = n then g (Fx.pk ix ds) else mno
theorem fe_callK0 {b0 : Bool} (G : FnG b0 X.prog X.w X.K X.mg X.base k fa fd ps g) (hG : b0 = true → X.A.guards = some []) (hr : Room k X.A) (hg : Gl X x) (hm : X.mg x = some (.ref fa)) (hk : PySem.W.keepIn X.K (.ref fa) = true) (hb : KB X.K fd ps ks ix) (tk : Takes X W)
    (ha : FK X W kws t) (hall : (backToKw pos (keywordEach kws X.env)).all (·.1.isSome) = true := by rfl) (hks : (backToKw pos (keywordEach kws X.env)).filterMap (·.1) = ks := by rfl) (hdb : (x == ("__debug__" : Str)) = false := by decide)
    (hpl : ((backTo pos (starEach [] X.env)).any (·.1) || (backToKw pos (keywordEach kws X.env)).any (·.1.isNone)) = false := by rfl) :
    FE X W (.Call (.Name x p) [] kws pos) (calK ks.length ix t g) := by
  refine ⟨⟨fun pins s σ H Q I ⟨F, ad, env, S, re, rs, h⟩ => ?_⟩⟩
  have args : tL X W t σ H (fun vs H1 => vs.length = ks.length ∧ spF X.K X.mg g (Fx.pk ix vs) H1 Q fun cls dd H' => W cls dd σ H') := ⟨F, ad, env, S, re, rs, Fin.seq re h fun F1 ad1 S1 ds vs H1 n1 re1 rs1 dp1 h1 => by
    split at h1
    · rename_i c
      exact ⟨by rw [← dp1.length]; exact c, fin_sp rs1 (dp1.pk ix) h1⟩
    · exact h1.elim⟩
  refine wpAny_Call_Name_kw (ld_glob I hg hm (PySem.W.callWith_KW0 (h₀ := X.base) I.ok.mod.kin hk hall (thn (ha.run.run pos pins s σ H _ I args) fun ws s1 ⟨vs, H1, I1, r, hl, q⟩ => ⟨I1.kIn, ?_⟩) hpl) hdb)
  rw [hks]
  refine wpAny_call (codeAny_mono (G.run X.A X.stack s1 H1 ⟨[], ks.zip ws⟩ (Fx.pk ix ws) (Fx.pk ix vs) Q _ hG hr I1.env0 (hb s1 ws I1.kIn (by rw [← r.length]; exact hl)) (vals_pk r ix) q) fun res s' out => ?_)
  match res, out with
  | .error z, out => exact tk z s' (XE.of_call I1 (fun _ _ _ q => q) out)
  | .ok (.ret u), out => exact I1.after out
end

/-! ### the law at its end -/
/-- the start of a law: the script stands at a, the empty tables at ts; H tracks nothing else -/
structure Start (h : Heap) (a : Addr) (vs : List Value) (ts : List Addr) (H : Hp) : Prop where
  scr : h.get? a = some { cls := .type "list", data := .seq vs.toArray }
  tab : ∀ b ∈ ts, h.get? b = some { cls := .none, data := .fields #[] }
  tr : ∀ b, H b ≠ none → b = a ∨ b ∈ ts
  tbl : ∀ b ∈ ts, H b = some (.tbl #[])
  lst : ∀ u, H a = some u → ∃ o xs, u = .frz o (.lst xs)
theorem Start.notTab {h a vs ts H} (x : Start h a vs ts H) : a ∉ ts := fun z => by
  have q := x.tab a z
  rw [x.scr] at q
  injection q with q
  injection q with _ _ q
  cases q
/-- what is neither a list nor an empty record is not tracked -/
theorem Start.free {h a vs ts H} (x : Start h a vs ts H) {b : Addr} {o : Obj} (e : h.get? b = some o) (nl : ∀ (ws : Array Value) (n : Nat), o.data = .seq ws n → False) (nf : o.data = .fields #[] → False) : H b = none := by
  cases q : H b with
  | none => rfl
  | some u =>
    rcases x.tr b (fun z => by rw [q] at z; cases z) with rfl | m
    · rw [x.scr] at e; cases e; exact (nl _ _ rfl).elim
    · rw [x.tab b m] at e; cases e; exact (nf rfl).elim
theorem Start.sees {h a vs ts H} (x : Start h a vs ts H) {b : Addr} {o : Obj} (e : h.get? b = some o) (nl : ∀ (ws : Array Value) (n : Nat), o.data = .seq ws n → False) (nf : o.data = .fields #[] → False) : (hidT h H).get? b = some o :=
  hidT_get e (x.free e nl nf)
theorem Start.ns {h a vs ts H} (x : Start h a vs ts H) {b : Addr} {m : Str → Option Value} (n : h.Ns b m) : (hidT h H).Ns b m := by
  obtain ⟨o, es, ep, e, d, r⟩ := n
  exact ⟨o, es, ep, x.sees e (fun _ _ z => by rw [d] at z; cases z) (fun z => by rw [d] at z; cases z), d, r⟩
theorem Start.kin {h a vs ts H} {K : PySem.W.Frag} (x : Start h a vs ts H) (inK : K.In h) (ka : H a ≠ none → K.lookup a = none) (kt : ∀ b ∈ ts, K.lookup b = none) : K.In (hidT h H) := fun b o e => by
  refine hidT_get (inK b o e) ?_
  cases q : H b with
  | none => rfl
  | some u =>
    have nn : H b ≠ none := fun z => by rw [q] at z; cases z
    rcases x.tr b nn with rfl | m
    · rw [ka nn] at e; cases e
    · rw [kt b m] at e; cases e
theorem Start.tabB {h a vs ts H} {mg : Str → Option Value} {c t : Addr} (x : Start h a vs ts H) (ht : t ∈ ts) (C : PySem.W.CodeHd h c t) (hmg : h.Ns mainGlobals mg)
    (bm : ∃ (m : Addr) (om : Obj), mg "__builtins__" = some (.ref m) ∧ m ≠ builtinsNs ∧ h.get? m = some om ∧ om.cls = .type "module" ∧ om.dict = some builtinsNs ∧ om.data = .plain) : LamX.TabB (hidT h H) mg c t := by
  obtain ⟨m, om, m1, m2, m3, m4, m5, m6⟩ := bm
  obtain ⟨og, es, ep, g1, g2, g3⟩ := hmg
  constructor
  · obtain ⟨oc, us, f1, f2, f3, f4, f5, f6, f7, q1, q2, q3, q4, q5⟩ := C
    refine ⟨oc, us, f1, f2, f3, f4, f5, f6, f7, x.sees q1 (fun _ _ z => by rw [q3] at z; cases z) (fun z => ?_), q2, q3, q4, q5⟩
    rw [q3] at z
    cases z
    simp at q4
  · refine ⟨m, om, m1, m2, fun z => ?_, fun z => ?_, x.sees m3 (fun _ _ z => by rw [m6] at z; cases z) (fun z => by rw [m6] at z; cases z), m4, m5, m6⟩
    · rw [z, g1] at m3; cases m3; rw [g2] at m6; cases m6
    · rw [z, x.tab t ht] at m3; cases m3; cases m6
  · intro z
    rw [z, x.tab t ht] at g1
    cases g1; cases g2
theorem law_run {P : Program} {w : World} {K : PySem.W.Frag} {mg mb : Str → Option Value} {k : Nat} {fa a : Addr} {cs : List (Addr × Addr)} {fd : FuncData} {x : Str} {g : List D → M D} {s1 : Shared} {vs : List Value} {ns : List Int}
    (inK : K.In s1.heap) (hmg : s1.heap.Ns mainGlobals mg) (hmb : s1.heap.Ns builtinsNs mb) (boot : ∀ y : Str, y ≠ "__name__" → mb y = bootBuiltins y) (lim : s1.heap.NoLimit) (gens : s1.gens = #[])
    (tE : ∀ p ∈ cs, s1.heap.get? p.2 = some { cls := .none, data := .fields #[] }) (tK : ∀ p ∈ cs, K.lookup p.2 = none) (tC : ∀ p ∈ cs, PySem.W.CodeHd s1.heap p.1 p.2)
    (bm : ∃ (m : Addr) (om : Obj), mg "__builtins__" = some (.ref m) ∧ m ≠ builtinsNs ∧ s1.heap.get? m = some om ∧ om.cls = .type "module" ∧ om.dict = some builtinsNs ∧ om.data = .plain)
    (ha : s1.heap.get? a = some { cls := .type "list", data := .seq vs.toArray }) (hi : IntsAre vs ns) (hz : ns.length ≤ sizeLine) (room : Room k callerA) (tT : ∀ p ∈ tb.T, p.1 ∈ cs.map (·.2))
    (G : ∀ base : Heap, K.In base → base.Ns mainGlobals mg → (∀ p ∈ cs, LamX.TabB base mg p.1 p.2) → FnG true P w K mg base k fa fd [x] g) (bind : ∀ (s : Shared) (u : Value), BindsTo s fd ⟨[u], []⟩ [(x, u)]) (yes : ∃ S', g [.scr ns] [] = .ok (.bl true) S') :
    codeAny (model P w) callerA (.call (.ref fa) ⟨[.ref a], []⟩) (fun r s' => r = .ok (.ret (.bool true)) ∧ OldK s1.heap s'.heap ∧ s'.os = s1.os ∧ AllBare s'.gens) s1 := by
  have hv : Vals (ns.map V.int) vs := vals_ints hi
  have hlv := hi.length
  have mem : ∀ p ∈ cs, p.2 ∈ cs.map (·.2) := fun p hp => List.mem_map.mpr ⟨p, hp, rfl⟩
  have emp : ∀ b ∈ cs.map (·.2), s1.heap.get? b = some { cls := .none, data := .fields #[] } ∧ K.lookup b = none ∧ ∃ c, PySem.W.CodeHd s1.heap c b := fun b hb => by
    obtain ⟨p, hp, rfl⟩ := List.mem_map.mp hb
    exact ⟨tE p hp, tK p hp, p.1, tC p hp⟩
  have main : ∀ H : Hp, Start s1.heap a vs (cs.map (·.2)) H → SqL K H a (ns.map V.int) → HOk P w H s1.heap → (H a ≠ none → K.lookup a = none) →
      codeAny (model P w) callerA (.call (.ref fa) ⟨[.ref a], []⟩) (fun r s' => r = .ok (.ret (.bool true)) ∧ OldK s1.heap s'.heap ∧ s'.os = s1.os ∧ AllBare s'.gens) s1 := by
    intro H Z sq hok ka
    have inB : K.In (hidT s1.heap H) := Z.kin inK ka fun b hb => (emp b hb).2.1
    have mod : Mod K mg (hidT s1.heap H) := ⟨inB, Z.ns hmg, ⟨mb, Z.ns hmb, boot⟩, by obtain ⟨m, h1, h2⟩ := lim; exact ⟨m, Z.ns h1, h2⟩⟩
    have env0 : Env0 P w K mg (hidT s1.heap H) callerA [] s1 H := ⟨rfl, mod, fun b o z => of_hidT z, Nat.le_of_eq (hidT_size _ _), trivial, fun b z => absurd z (by unfold frs; simp), hok, .of_eq gens⟩
    have want : spF K mg g [.ref a] H (fun v _ => v = .bl true) (fun _ _ _ => False) := by
      obtain ⟨S', hS⟩ := yes
      refine ⟨fun b => if b = a then H a else none, fun _ => 0, [], [.scr ns], ⟨fun b u z => ?_, fun n od z => by simp at z, fun n m od od' z => by simp at z, fun p hp => ?_, fun b ps z => ?_⟩, ⟨.ref a, [], rfl, ⟨a, rfl, ?_⟩, rfl⟩, ?_⟩
      · by_cases e : b = a
        · subst e; rw [if_pos rfl] at z; exact z
        · rw [if_neg e] at z; cases z
      · exact LamX.TabS.nil (Z.tbl _ (tT p hp))
      · by_cases e : b = a
        · subst e
          rw [if_pos rfl] at z
          obtain ⟨o, xs, q⟩ := Z.lst _ z
          cases q
        · rw [if_neg e] at z; cases z
      · rcases sq with (q | ⟨o, q⟩) | q
        · exact .inl (.inl ((if_pos rfl).trans q))
        · exact .inl (.inr ⟨o, (if_pos rfl).trans q⟩)
        · exact .inr q
      · rw [hS]
        exact fun v F' ad' H' _ _ d => d
    refine codeAny_mono ((G _ inB (Z.ns hmg) fun p hp => Z.tabB (mem p hp) (tC p hp) hmg bm).run callerA [] s1 H ⟨[.ref a], []⟩ [.ref a] [.ref a] _ _ (fun _ => rfl) room env0 (bind s1 (.ref a)) (.cons rfl .nil) want) fun r s' out => ?_
    match r, out with
    | .error e, ⟨_, _, _, _, _, _, _, _, _, _, _, _, z⟩ => exact z.elim
    | .ok (.ret u), ⟨v, H', os, bare, un, hok', rv, q⟩ =>
      have q : v = .bl true := q
      subst q
      have rv : u = Value.bool true := rv
      subst rv
      have stay : ∀ b o, b ∉ cs.map (·.2) → s1.heap.get? b = some o → s'.heap.get? b = some o := fun b o nb z => by
        cases qb : H b with
        | none => exact un.keep b o z qb (by unfold frs; simp) (by simp)
        | some u =>
          rcases Z.tr b (fun y => by rw [qb] at y; cases y) with rfl | m
          · obtain ⟨ob, ys, rfl⟩ := Z.lst u qb
            obtain ⟨e1, _⟩ := hok b _ qb
            obtain ⟨e2, _⟩ := hok' b _ (un.frzs b ob _ qb)
            rw [z] at e1; cases e1
            exact e2
          · exact absurd m nb
      have grow : ∀ b ∈ cs.map (·.2), ∃ more : Array Value, s'.heap.get? b = some { cls := .none, data := .fields more } := fun b hb => by
        obtain ⟨more, z⟩ := un.tbls b #[] (Z.tbl b hb)
        exact ⟨_, hok' b _ z⟩
      refine ⟨rfl, ⟨fun b o z => ?_, fun b o z => ?_⟩, os, bare⟩
      · by_cases hb : b ∈ cs.map (·.2)
        · obtain ⟨e1, _, c, C⟩ := emp b hb
          obtain ⟨more, hm⟩ := grow b hb
          rw [e1] at z
          cases z
          exact .inr (.inl ⟨(C.tab e1).isCodeTable, rfl, #[], more, rfl, by rw [Array.empty_append]; exact hm⟩)
        · exact .inl (stay b o hb z)
      · by_cases hb : b ∈ cs.map (·.2)
        · obtain ⟨more, hm⟩ := grow b hb
          exact ⟨_, hm⟩
        · exact ⟨o, stay b o hb z⟩
  -- the script is of the written part, or it is tracked
  cases hk : K.lookup a with
  | some o =>
    have z := inK a o hk
    rw [ha] at z
    cases z
    have nt : a ∉ cs.map (·.2) := fun m => by rw [(emp a m).2.1] at hk; cases hk
    let H : Hp := fun b => if b ∈ cs.map (·.2) then some (.tbl #[]) else none
    have no : H a = none := if_neg nt
    refine main H ⟨ha, fun b hb => (emp b hb).1, fun b nb => ?_, fun b hb => if_pos hb, fun u q => by rw [no] at q; cases q⟩ (.inr ⟨_, vs.toArray, _, hk, rfl, rfl, rfl, by rw [List.size_toArray, hlv]; exact hz, by simpa using hv⟩) (fun b u q => ?_) fun y => absurd no y
    · by_cases hb : b ∈ cs.map (·.2)
      · exact .inr hb
      · exact absurd (if_neg hb) nb
    · by_cases hb : b ∈ cs.map (·.2)
      · have : H b = some (.tbl #[]) := if_pos hb
        rw [this] at q; cases q
        exact (emp b hb).1
      · have : H b = none := if_neg hb
        rw [this] at q; cases q
  | none =>
    let o : Obj := { cls := .type "list", data := .seq vs.toArray }
    let H : Hp := fun b => if b = a then some (.frz o (.lst (ns.map V.int))) else if b ∈ cs.map (·.2) then some (.tbl #[]) else none
    have hA : H a = some (.frz o (.lst (ns.map V.int))) := if_pos rfl
    have nt : ∀ b ∈ cs.map (·.2), b ≠ a := fun b hb z => by
      have e := (emp b hb).1
      rw [z, ha] at e
      injection e with e
      injection e with _ _ e
      cases e
    have hB : ∀ b ∈ cs.map (·.2), H b = some (.tbl #[]) := fun b hb => (if_neg (nt b hb)).trans (if_pos hb)
    have hN : ∀ b, b ≠ a → b ∉ cs.map (·.2) → H b = none := fun b h1 h2 => (if_neg h1).trans (if_neg h2)
    refine main H ⟨ha, fun b hb => (emp b hb).1, fun b nb => ?_, hB, fun u q => by rw [hA] at q; cases q; exact ⟨_, _, rfl⟩⟩ (.inl (.inr ⟨o, hA⟩)) (fun b u q => ?_) fun _ => hk
    · by_cases h1 : b = a
      · exact .inl h1
      · by_cases h2 : b ∈ cs.map (·.2)
        · exact .inr h2
        · exact absurd (hN b h1 h2) nb
    · by_cases h1 : b = a
      · subst h1
        rw [hA] at q; cases q
        exact ⟨ha, by rw [List.length_map]; exact hz, vs, _, hv, ha⟩
      · by_cases h2 : b ∈ cs.map (·.2)
        · rw [hB b h2] at q; cases q
          exact (emp b h2).1
        · rw [hN b h1 h2] at q; cases q
end Fx

end
/-! ## Fx11 -/
section
namespace Fx
open PySem PySem.Spec PyProof.Rows L2
variable [tb : Tabl]

omit tb in
theorem tabs_of {p : Program} {loose : List Str} {mean : ExcName → Option Value} {mg mb : Str → Option Value} {h : Heap} {K : PySem.W.Frag} {x : Str} {c t : Addr} (T : Top p loose mean mg mb h) (X : K.In h) (hx : x ∈ (recsOf p).map (·.name)) (ht : PySem.W.tabIn K x = some (c, t)) :
    PySem.W.CodeHd h c t ∧ h.get? t = some { cls := .none, data := .fields #[] } := by
  obtain ⟨d, hd, e⟩ := List.mem_map.mp hx
  have : ((recsOf p).find? (fun e => e.name == x)).isSome = true := by
    rw [List.find?_isSome]
    exact ⟨d, hd, by simp [e]⟩
  obtain ⟨d', hd'⟩ := Option.isSome_iff_exists.mp this
  exact PySem.W.tab_of T X hd' ht
/-- what is known of the law at the head's heap -/
def LawG (l : PySem.W.OpenLaw) (w : World) (K : PySem.W.Frag) (k : Nat) (x : Str) (mg : Str → Option Value) (fa : Addr) (g : List D → M D) (h : Heap) : Prop :=
  ∃ (fd : FuncData) (cs : List (Addr × Addr)) (T : List (Addr × Str)), (∀ p ∈ cs, h.get? p.2 = some { cls := .none, data := .fields #[] }) ∧ (∀ p ∈ cs, K.lookup p.2 = none) ∧ (∀ p ∈ cs, PySem.W.CodeHd h p.1 p.2) ∧ (∀ p ∈ T, p.1 ∈ cs.map (·.2)) ∧ (∀ (s : Shared) (u : Value), BindsTo s fd ⟨[u], []⟩ [(x, u)]) ∧
    ∀ base : Heap, K.In base → base.Ns mainGlobals mg → (∀ p ∈ cs, LamX.TabB base mg p.1 p.2) → @FnG ⟨T⟩ true l.prog w K mg base k fa fd [x] g
omit tb in
theorem law_walk {l : PySem.W.OpenLaw} {q : Program} {loose : List Str} {XP : (Str → Option Value) → Heap → Prop} {YP : World → Heap → Prop} {d : DefRec} {K : Params → PySem.W.Frag} {k : Nat} {x : Str} {g : List D → M D}
    (hn : l.most = some 63) (hdf : d.params.defaults = []) (room : Room k callerA)
    (hY : ∀ (w : World) (h : Heap), YP w h → (K w.params).In h)
    (F : ∀ (w : World) (mg : Str → Option Value) (fa : Addr) (h : Heap), (∀ x c t, PySem.W.tabIn (K w.params) x = some (c, t) → x ∈ (recsOf q).map (·.name) → PySem.W.CodeHd h c t ∧ h.get? t = some { cls := .none, data := .fields #[] }) → (K w.params).In h → h.Ns mainGlobals mg → mg d.name = some (.ref fa) → LawG l w (K w.params) k x mg fa g h)
    (yes : ∀ ns : List Int, ns.length ≤ 63 → (∀ k ∈ ns, Builtin.Int.intBits k ≤ 1048576) → ∃ S', g [.scr ns] [] = .ok (.bl true) S') :
    PySem.W.WalkO q loose XP YP l.row.toRowW d [] (fun f vs => PySem.call f vs) := by
  refine Att.attach_callB hn hdf fun w s₀ s₁ mg mb fa o pm cd doc a vs ns G Y ho hd hcd hmg hobj hints hlen hbits hg => ?_
  have KX := hY w _ Y
  obtain ⟨fd, cs, T, h1, h2, h3, h4, hb, hF⟩ := F w mg fa _ (fun x c t ht hx => tabs_of G.T KX hx ht) KX G.T.g hmg
  exact @law_run ⟨T⟩ _ _ _ _ _ _ _ _ cs _ _ _ _ _ _ KX G.T.g G.T.b G.T.builtins G.T.nolimit hg h1 h2 h3 G.T.bmain hobj hints (Nat.le_trans hlen (by decide)) room h4 hF hb (yes ns hlen hbits)
/-- a law that makes no lambdas -/
theorem lawG0 {l : PySem.W.OpenLaw} {w : World} {K : PySem.W.Frag} {k : Nat} {x : Str} {mg : Str → Option Value} {fa : Addr} {g : List D → M D} {h : Heap}
    (F : ∃ fd : FuncData, (∀ (s : Shared) (u : Value), BindsTo s fd ⟨[u], []⟩ [(x, u)]) ∧ ∀ base : Heap, K.In base → base.Ns mainGlobals mg → @FnG ⟨[]⟩ true l.prog w K mg base k fa fd [x] g) : LawG l w K k x mg fa g h := by
  obtain ⟨fd, hb, hF⟩ := F
  exact ⟨fd, [], [], fun _ z => (nomatch z), fun _ z => (nomatch z), fun _ z => (nomatch z), fun _ z => (nomatch z), hb, fun base a b _ => hF base a b⟩

/-! ### defs at their names -/
/-- the code object of the def x -/
def CodeAt (K : PySem.W.Frag) (mg : Str → Option Value) (x : Str) (cd : Value) : Prop := ∃ (f : Addr) (o : Obj) (fd : FuncData), mg x = some (.ref f) ∧ K.lookup f = some o ∧ o.data = .func fd ∧ fd.code = cd
omit tb in
theorem CodeAt.eq {K mg x c d} (h : CodeAt K mg x c) (k : CodeAt K mg x d) : c = d := by
  obtain ⟨f, o, fd, h1, h2, h3, rfl⟩ := h
  obtain ⟨f', o', fd', k1, k2, k3, rfl⟩ := k
  rw [h1] at k1; cases k1
  rw [h2] at k2; cases k2
  rw [h3] at k3; cases k3
  rfl
structure DefAt (K : PySem.W.Frag) (mg : Str → Option Value) (x : Str) (st : Stmt) (ps : List Str) : Prop where
  ex : ∃ (a : Addr) (fd : FuncData), mg x = some (.ref a) ∧ Fun K x x st a fd ∧ Binds K fd ps []
structure GAt (b0 : Bool) (P : Program) (w : World) (K : PySem.W.Frag) (mg : Str → Option Value) (base : Heap) (k : Nat) (x : Str) (st : Stmt) (ps : List Str) (g : List D → M D) : Prop where
  ex : ∃ (a : Addr) (fd : FuncData), mg x = some (.ref a) ∧ Fun K x x st a fd ∧ Binds K fd ps [] ∧ FnG b0 P w K mg base k a fd ps g
section
variable {P : Program} {w : World} {K : PySem.W.Frag} {mg : Str → Option Value} {base : Heap}
theorem g_at {b0 : Bool} {x : Str} {st : Stmt} {N ps : List Str} {k : Nat} {b : Env → MS} (T : DefAt K mg x st ps) (S : FnScope N ps (defScope st))
    (hbody : ∀ (f : Addr) (cd : Value) (A : Around) (outer : List PySem.Env) (s : Shared) (H : Hp) (E : XK), CodeAt K mg x cd → (b0 = true → A.guards = some []) → Room k (A.deeper (envOfC x (defScope st) s.heap.objs.size f cd)) →
      FSs (bodyCx P w K mg base N x (defScope st) f cd A outer s H E) (WE E) (defBody st) b) : GAt b0 P w K mg base (k + 1) x st ps (bodyD N.length ps.length b) := by
  obtain ⟨a, fd, h1, h2, h3⟩ := T.ex
  exact ⟨a, fd, h1, h2, h3, fn_body h2 S fun cd A outer s H E hc => hbody a cd A outer s H E (by
    obtain ⟨o, e1, e2, e3⟩ := hc
    exact ⟨a, o, fd, h1, e1, e2, e3⟩)⟩
theorem g_no {b0 : Bool} {x : Str} {st : Stmt} {ps : List Str} {k : Nat} (T : DefAt K mg x st ps) : GAt b0 P w K mg base k x st ps (fun _ => mno) := by
  obtain ⟨a, fd, h1, h2, h3⟩ := T.ex
  refine ⟨a, fd, h1, h2, h3, ⟨fun vs H Q E ⟨F', ad, S', ds, _, dp, h⟩ => h.elim, fun A outer s H args us vs Q E hG room env0 bind rv want => ?_⟩⟩
  obtain ⟨F', ad, S', ds, _, dp, h⟩ := want
  exact h.elim
theorem def_mk {x : Str} {st : Stmt} {h : Heap} {f : Addr} {oc : Value} {od an : Option Addr} {osl : Array (Option Value)} {kV doc pm cdv ct : Value} {ps : List Str} (X : K.In h) (G : h.Ns mainGlobals mg)
    (a : PySem.W.nsIn K mainGlobals x = some (some (.ref f))) (l : K.lookup f = some ⟨oc, od, .func (PySem.W.fnOf x x (defArgs st) (defBody st) (defScope st) .none kV doc pm an cdv ct), osl⟩)
    (c : PySem.W.codeIn K cdv x = true) (k : PySem.W.keepIn K (.ref f) = true)
    (hb : ∀ (kV doc pm : Value) (an : Option Addr) (cdv ct : Value) (us : List Value), us.length = ps.length → bindArgs (PySem.W.fnOf x x (defArgs st) (defBody st) (defScope st) .none kV doc pm an cdv ct) ⟨us, []⟩ = pure (ps.zip us)) : DefAt K mg x st ps :=
  ⟨f, _, PySem.W.mg_of X G a, fun_mk l c k, (fun_mk l c k).binds hb⟩
end
section
variable {X : Cx} {W : WX} {k : Nat} {ps ks : List Str} {g : List D → M D} {x : Str} {st : Stmt} {pos p : Pos} {e : Expr} {es : List Expr} {t : Env → M (List D)} {kws : List Keyword} {ix : List Nat}
theorem fe_callD {b0 : Bool} (G : GAt b0 X.prog X.w X.K X.mg X.base k x st ps g) (hG : b0 = true → X.A.guards = some []) (hr : Room k X.A) (hg : Gl X x) (tk : Takes X W)
    (ha : FA X W (e :: es) t) (hdb : (x == ("__debug__" : Str)) = false := by decide) (he : starEach (e :: es) X.env = (false, eval e X.env) :: starEach es X.env := by rfl) (hpl : (backTo pos (starEach es X.env)).any (·.1) = false := by rfl) :
    FE X W (.Call (.Name x p) (e :: es) [] pos) (cal t g) := by
  obtain ⟨a, fd, h1, h2, h3, h4⟩ := G.ex
  exact fe_call h4 hG hr hg h1 h2.kp h3 tk ha hdb he hpl
theorem fe_callD0 {b0 : Bool} (G : GAt b0 X.prog X.w X.K X.mg X.base k x st ps g) (hG : b0 = true → X.A.guards = some []) (hr : Room k X.A) (hg : Gl X x) (tk : Takes X W)
    (hdb : (x == ("__debug__" : Str)) = false := by decide) : FE X W (.Call (.Name x p) [] [] pos) (fun _ => g []) := by
  obtain ⟨a, fd, h1, h2, h3, h4⟩ := G.ex
  exact fe_call0 h4 hG hr hg h1 h2.kp h3 tk hdb
theorem fe_callDK {b0 : Bool} (ks : List Str) (ix : List Nat) (G : GAt b0 X.prog X.w X.K X.mg X.base k x st ps g) (hG : b0 = true → X.A.guards = some []) (hr : Room k X.A) (hg : Gl X x) (tk : Takes X W)
    (hb : ∀ (kV doc pm : Value) (an : Option Addr) (cdv ct : Value) (ws : List Value), ws.length = ks.length → bindArgs (PySem.W.fnOf x x (defArgs st) (defBody st) (defScope st) .none kV doc pm an cdv ct) ⟨[], ks.zip ws⟩ = pure (ps.zip (Fx.pk ix ws)))
    (ha : FK X W kws t) (hall : (backToKw pos (keywordEach kws X.env)).all (·.1.isSome) = true := by rfl) (hks : (backToKw pos (keywordEach kws X.env)).filterMap (·.1) = ks := by rfl) (hdb : (x == ("__debug__" : Str)) = false := by decide)
    (hpl : ((backTo pos (starEach [] X.env)).any (·.1) || (backToKw pos (keywordEach kws X.env)).any (·.1.isNone)) = false := by rfl) :
    FE X W (.Call (.Name x p) [] kws pos) (calK ks.length ix t g) := by
  obtain ⟨a, fd, h1, h2, h3, h4⟩ := G.ex
  refine fe_callK0 (ks := ks) (ix := ix) h4 hG hr hg h1 h2.kp (fun s ws _ hl => ?_) tk ha hall hks hdb hpl
  obtain ⟨oc, od, kV, doc, pm, an, cdv, ct, osl, rfl, lk, hcd⟩ := h2.ex
  exact .of_eq (hb kV doc pm an cdv ct ws hl)
end
theorem fe_globE {X : Cx} {W : WX} {x : Str} {d : D} {v : V} {pos : Pos} (hg : Gl X x) (hm : ∃ u, X.mg x = some u ∧ RelV v u) (hd : ∀ F ad L, DP X.K F ad L d v) (hdb : (x == ("__debug__" : Str)) = false := by decide) : FE X W (.Name x pos) (fun _ => pur d) := by
  obtain ⟨u, h1, h2⟩ := hm
  exact fe_glob hg h1 h2 hd hdb
theorem hu1 {k : Nat} {A : Around} (r : Room k A) : A.units + 1 < cLine := by have := r.un; omega
theorem hu64 {k : Nat} {A : Around} (r : Room k A) : A.units + 64 < cLine := by have := r.un; omega
theorem hu66 {k : Nat} {A : Around} (r : Room k A) : A.units + 66 < cLine := by have := r.un; omega
theorem bo_all : bootBuiltins "all" = some (.builtin "all") := by decide +kernel
theorem bo_any : bootBuiltins "any" = some (.builtin "any") := by decide +kernel
theorem bo_len : bootBuiltins "len" = some (.builtin "len") := by decide +kernel
theorem bo_ord : bootBuiltins "ord" = some (.builtin "ord") := by decide +kernel
theorem bo_repr : bootBuiltins "repr" = some (.builtin "repr") := by decide +kernel
theorem bo_sorted : bootBuiltins "sorted" = some (.builtin "sorted") := by decide +kernel
theorem bo_isinstance : bootBuiltins "isinstance" = some (.builtin "isinstance") := by decide +kernel
theorem bo_int : bootBuiltins "int" = some (.type "int") := by decide +kernel
theorem bo_bool : bootBuiltins "bool" = some (.type "bool") := by decide +kernel
theorem bo_str : bootBuiltins "str" = some (.type "str") := by decide +kernel
theorem bo_list : bootBuiltins "list" = some (.type "list") := by decide +kernel
theorem bo_tuple : bootBuiltins "tuple" = some (.type "tuple") := by decide +kernel
theorem bo_dict : bootBuiltins "dict" = some (.type "dict") := by decide +kernel
end Fx

end
/-! ## Fx12 -/
section
namespace Fx
open PySem PySem.Spec PyProof.Rows L2
variable [tb : Tabl]

/-! ### plain data -/
mutual
def gd (n : Nat) : D → Bool
  | .non | .bl _ => true
  | .int i => decide (i.natAbs ≤ n)
  | .str x => x.cps.all (· < 128)
  | .lst ds | .tup ds => gds n ds
  | .obj _ | .scr _ | .err .. | .utp _ => false
def gds (n : Nat) : List D → Bool
  | [] => true
  | d :: ds => gd n d && gds n ds
end
mutual
def py : D → PyData
  | .non | .obj _ | .scr _ | .err .. | .utp _ => .none
  | .bl b => .bool b
  | .int i => .int i
  | .str x => .str x
  | .lst ds => .list (pys ds)
  | .tup ds => .tuple (pys ds)
def pys : List D → List PyData
  | [] => []
  | d :: ds => py d :: pys ds
end
theorem gds_mem {n : Nat} : ∀ {ds : List D}, gds n ds = true ↔ ∀ d ∈ ds, gd n d = true
  | [] => by simp [gds]
  | d :: ds => by simp [gds, gds_mem (ds := ds)]
mutual
theorem pyD_eq {n : Nat} : ∀ d : D, gd n d = true → pyD d = some (py d)
  | .non, _ => rfl
  | .bl b, _ => rfl
  | .int i, _ => rfl
  | .str x, _ => rfl
  | .lst ds, h => by
    have := pyDs_eq ds (by simpa [gd] using h)
    simp [pyD, py, this]
  | .tup ds, h => by
    have := pyDs_eq ds (by simpa [gd] using h)
    simp [pyD, py, this]
  | .obj _, h => by simp [gd] at h
  | .scr _, h => by simp [gd] at h
  | .err .., h => by simp [gd] at h
  | .utp _, h => by simp [gd] at h
theorem pyDs_eq {n : Nat} : ∀ ds : List D, gds n ds = true → pyDs ds = some (pys ds)
  | [], _ => rfl
  | d :: ds, h => by
    have h : gd n d = true ∧ gds n ds = true := by simpa [gds] using h
    simp [pyDs, pys, pyD_eq d h.1, pyDs_eq ds h.2]
end
mutual
theorem lay_gd {n : Nat} : ∀ d : D, gd n d = true → (py d).canLay0 = true
  | .non, _ => rfl
  | .bl b, _ => rfl
  | .int i, _ => rfl
  | .str x, h => by
    have h : x.cps.all (· < 128) = true := by simpa [gd] using h
    simp only [py, PyData.canLay0, PyData.strOk]
    rw [Array.all_eq_true] at h ⊢
    intro i hi
    have := h i hi
    simp only [decide_eq_true_eq] at this ⊢
    omega
  | .lst ds, h => by
    have := lay_gds ds (by simpa [gd] using h)
    simpa [py, PyData.canLay0] using this
  | .tup ds, h => by
    have := lay_gds ds (by simpa [gd] using h)
    simpa [py, PyData.canLay0] using this
  | .obj _, h => by simp [gd] at h
  | .scr _, h => by simp [gd] at h
  | .err .., h => by simp [gd] at h
  | .utp _, h => by simp [gd] at h
theorem lay_gds {n : Nat} : ∀ ds : List D, gds n ds = true → PyData.canLayAll0 (pys ds) = true
  | [], _ => rfl
  | d :: ds, h => by
    have h : gd n d = true ∧ gds n ds = true := by simpa [gds] using h
    simp [PyData.canLayAll0, pys, lay_gd d h.1, lay_gds ds h.2]
end
mutual
theorem gd_mono {n m : Nat} (hm : n ≤ m) : ∀ d : D, gd n d = true → gd m d = true
  | .non, _ => rfl
  | .bl b, _ => rfl
  | .int i, h => by
    have h : i.natAbs ≤ n := by simpa [gd] using h
    simp only [gd, decide_eq_true_eq]; omega
  | .str x, h => by simpa [gd] using h
  | .lst ds, h => by
    have := gds_mono hm ds (by simpa [gd] using h)
    simpa [gd] using this
  | .tup ds, h => by
    have := gds_mono hm ds (by simpa [gd] using h)
    simpa [gd] using this
  | .obj _, h => by simp [gd] at h
  | .scr _, h => by simp [gd] at h
  | .err .., h => by simp [gd] at h
  | .utp _, h => by simp [gd] at h
theorem gds_mono {n m : Nat} (hm : n ≤ m) : ∀ ds : List D, gds n ds = true → gds m ds = true
  | [], _ => rfl
  | d :: ds, h => by
    have h : gd n d = true ∧ gds n ds = true := by simpa [gds] using h
    simp [gds, gd_mono hm d h.1, gds_mono hm ds h.2]
end
abbrev dep (d : D) : Nat := (py d).depth
abbrev wgt (d : D) : Nat := (py d).weight
def eqP (x y : D) : Bool := PyData.eqv (py x) (py y)
theorem pyM_eq {n : Nat} {d : D} {S : Store} (h : gd n d = true) : pyM d S = .ok (py d) S := by
  have := pyD_eq d h
  cases d <;> first
    | (simp [gd] at h; done)
    | (simp only [pyM, this]; rfl)
theorem shaped_gd {n : Nat} {d : D} (h : gd n d = true) (hd : dep d ≤ 64) : SeqAt.shaped (py d) = true := by
  simp [SeqAt.shaped, lay_gd d h]; exact hd
theorem eqD_eq {n m : Nat} {x y : D} {S : Store} (hx : gd n x = true) (hy : gd m y = true) (dx : dep x ≤ 64) (dy : dep y ≤ 64) : eqD x y S = .ok (.bl (eqP x y)) S := by
  simp only [eqD, bd, pyM_eq hx, pyM_eq hy, shaped_gd hx dx, shaped_gd hy dy, and_self, if_true, pur, eqP]
theorem neD_eq {n m : Nat} {x y : D} {S : Store} (hx : gd n x = true) (hy : gd m y = true) (dx : dep x ≤ 64) (dy : dep y ≤ 64) : neD x y S = .ok (.bl (!eqP x y)) S := by
  simp only [neD, bd, pyM_eq hx, pyM_eq hy, shaped_gd hx dx, shaped_gd hy dy, and_self, if_true, pur, eqP]
theorem depAll_le {k : Nat} : ∀ {ds : List D}, (∀ d ∈ ds, dep d ≤ k) ↔ PyData.depthAll (pys ds) ≤ k
  | [] => by simp [pys, PyData.depthAll]
  | d :: ds => by simp [pys, PyData.depthAll, depAll_le (ds := ds), dep, Nat.max_le]
theorem dep_lst {k : Nat} {ds : List D} (h : ∀ d ∈ ds, dep d ≤ k) : dep (.lst ds) ≤ k + 1 := by
  have := depAll_le.mp h; simp only [dep, py, PyData.depth]; omega
theorem dep_tup {k : Nat} {ds : List D} (h : ∀ d ∈ ds, dep d ≤ k) : dep (.tup ds) ≤ k + 1 := by
  have := depAll_le.mp h; simp only [dep, py, PyData.depth]; omega
theorem eqP_nilL (ds : List D) : eqP (.lst ds) (.lst []) = ds.isEmpty := by cases ds <;> rfl
theorem eqP_nilT (ds : List D) : eqP (.tup ds) (.tup []) = ds.isEmpty := by cases ds <;> rfl
end Fx

end
/-! ## Fx13 -/
section
namespace Fx
open PySem PySem.Spec PyProof.Rows L2
variable [tb : Tabl]
section
variable {X : Cx} {W : WX} {pos p apos : Pos} {e a b c : Expr} {es : List Expr} {f f1 f2 f3 : Env → M D} {t : Env → M (List D)}
/-! ### max, min of two -/
def maxD : List D → M D
  | [.int i, .int j] => pur (.int (if j > i then j else i))
  | _ => mno
def minD : List D → M D
  | [.int i, .int j] => pur (.int (if j < i then j else i))
  | _ => mno
theorem cf_max (hc : X.calm = true) : CallF X (.builtin "max") maxD := by
  refine ⟨_, call_max2 hc, fun W σ F ad S H ds vs Q rs dp h => ?_⟩
  unfold maxD at h
  split at h
  · obtain ⟨v, r, rfl, d1, w, r2, rfl, d2, e3⟩ := dp
    cases d1; cases d2; cases e3
    exact ⟨_, _, rfl, Fin.pure rs h rfl⟩
  · exact h.elim
theorem cf_min (hc : X.calm = true) : CallF X (.builtin "min") minD := by
  refine ⟨_, call_min2 hc, fun W σ F ad S H ds vs Q rs dp h => ?_⟩
  unfold minD at h
  split at h
  · obtain ⟨v, r, rfl, d1, w, r2, rfl, d2, e3⟩ := dp
    cases d1; cases d2; cases e3
    exact ⟨_, _, rfl, Fin.pure rs h rfl⟩
  · exact h.elim
/-! ### d.get(k), d.get(k, x) -/
def get1 (f1 f2 : Env → M D) : Env → M D := fun env => bd (f1 env) fun x => bd (objK x) fun _ => bd (f2 env) fun y => bd (objK x) fun c => bd (opt (keyOf y)) fun k => pur ((valD c.2 k).getD .non)
def get2 (f1 f2 f3 : Env → M D) : Env → M D := fun env => bd (f1 env) fun x => bd (objK x) fun _ => bd (f2 env) fun y => bd (f3 env) fun z => bd (objK x) fun c => bd (opt (keyOf y)) fun k => pur ((valD c.2 k).getD z)
theorem fe_get1 (hu : X.A.units + 1 < cLine) (ho : FE X W a f1) (hi : FE X W b f2) (m : M1 X a "get" apos b pos) : FE X W (.Call (.Attribute a "get" apos) [b] [] pos) (get1 f1 f2) := by
  refine ⟨PE.weak (pe_dget1 hu ho.run hi.run m) fun σ H Q ⟨F, ad, env, S, re, rs, h⟩ => ⟨F, ad, env, S, re, rs, Fin.seq re h fun F1 ad1 S1 x v H1 n1 re1 rs1 dp1 h1 => ?_⟩⟩
  obtain ⟨c0, S2, e0, h1⟩ := Fin.look h1 fun _ _ => objK_ex
  obtain ⟨rfl, q0, vs0, rfl, hH0, dk0⟩ := objK_at rs1 dp1 e0
  refine ⟨ad1 c0.1, rfl, .inl ⟨_, .inl hH0⟩, F1, ad1, env, _, re1, rs1, Fin.seq re1 h1 fun F2 ad2 S2 y w H2 n2 re2 rs2 dp2 h2 => ?_⟩
  obtain ⟨c, S3, e3, h2⟩ := Fin.look h2 fun _ _ => objK_ex
  obtain ⟨rfl, q, vs, ev, hH, dk⟩ := objK_at rs2 (DP.mono n2.gr x _ dp1) e3
  obtain ⟨k, S4, e4, h2⟩ := Fin.look h2 fun _ _ => opt_ex
  obtain ⟨rfl, e5⟩ := opt_ok e4
  have ew := keyOf_V dp2 e5
  subst ew
  have ea : ad1 c0.1 = ad2 c.1 := by injection ev
  rw [ea]
  refine ⟨_, DGet.k hH, ?_⟩
  rcases dk.val (k := k) with ⟨z, z2⟩ | ⟨d, u, e6, e7, d7⟩
  · rw [z] at h2
    rw [z2]
    exact Fin.pure rs2 h2 rfl
  · rw [e6] at h2
    rw [e7]
    exact Fin.pure rs2 h2 d7
theorem fe_get2 (hu : X.A.units + 1 < cLine) (ho : FE X W a f1) (hi : FE X W b f2) (hz : FE X W c f3) (m : M2 X a "get" apos b c pos) : FE X W (.Call (.Attribute a "get" apos) [b, c] [] pos) (get2 f1 f2 f3) := by
  refine ⟨PE.weak (pe_dget2 hu ho.run hi.run hz.run m) fun σ H Q ⟨F, ad, env, S, re, rs, h⟩ => ⟨F, ad, env, S, re, rs, Fin.seq re h fun F1 ad1 S1 x v H1 n1 re1 rs1 dp1 h1 => ?_⟩⟩
  obtain ⟨c0, S2, e0, h1⟩ := Fin.look h1 fun _ _ => objK_ex
  obtain ⟨rfl, q0, vs0, rfl, hH0, dk0⟩ := objK_at rs1 dp1 e0
  refine ⟨ad1 c0.1, rfl, .inl ⟨_, .inl hH0⟩, F1, ad1, env, _, re1, rs1, Fin.seq re1 h1 fun F2 ad2 S2 y w H2 n2 re2 rs2 dp2 h2 => ⟨F2, ad2, env, S2, re2, rs2, Fin.seq re2 h2 fun F3 ad3 S3 z u H3 n3 re3 rs3 dp3 h3 => ?_⟩⟩
  obtain ⟨c, S4, e3, h3⟩ := Fin.look h3 fun _ _ => objK_ex
  obtain ⟨rfl, q, vs, ev, hH, dk⟩ := objK_at rs3 (DP.mono (n2.trans n3).gr x _ dp1) e3
  obtain ⟨k, S5, e4, h3⟩ := Fin.look h3 fun _ _ => opt_ex
  obtain ⟨rfl, e5⟩ := opt_ok e4
  have ew := keyOf_V dp2 e5
  subst ew
  have ea : ad1 c0.1 = ad3 c.1 := by injection ev
  rw [ea]
  refine ⟨_, DGet.k hH, ?_⟩
  rcases dk.val (k := k) with ⟨z1, z2⟩ | ⟨d, u1, e6, e7, d7⟩
  · rw [z1] at h3
    rw [z2]
    exact Fin.pure rs3 h3 dp3
  · rw [e6] at h3
    rw [e7]
    exact Fin.pure rs3 h3 d7
end
/-! ### for x, y in zip(a, b) -/
section
variable {X : Cx} {W : WX}
def pairD (x y : D) : D := .utp [x, y]
def zipM : List D → M (List D)
  | [.lst xs, .lst ys] => pur (List.zipWith pairD xs ys)
  | [.tup xs, .tup ys] => pur (List.zipWith pairD xs ys)
  | _ => mno
def itz (t : Env → M (List D)) : Env → M (List D) := fun env => bd (t env) zipM
theorem pair_new {F ad S H} {x y : D} {u w : V} {T : Addr} (rs : RS X.K F ad S H) (hT : H T = none) (d1 : DP X.K F ad S.length x u) (d2 : DP X.K F ad S.length y w) :
    ∃ F2 ad2, Nx F ad S H F2 ad2 S (upd H T (.tup [u, w])) ∧ RS X.K F2 ad2 S (upd H T (.tup [u, w])) ∧ DP X.K F2 ad2 S.length (pairD x y) (.ref T) :=
  ⟨upd F T (.tup [u, w]), ad, Nx.alloc rs hT, rs.alloc hT, T, [u, w], rfl, .inl (.inl upd_same), DPs.mono (Gr.alloc (F_none rs hT)) [x, y] [u, w] ⟨u, [w], rfl, d1, w, [], rfl, d2, rfl⟩⟩
theorem itOk_zipL {F ad L} {xs ys : List D} {a b : Addr} {us ws : List V} (q1 : SqL X.K F a us) (d1 : DPs X.K F ad L xs us) (q2 : SqL X.K F b ws) (d2 : DPs X.K F ad L ys ws) : ItOk X F ad L (List.zipWith pairD xs ys) (Itz X.K a b) := fun F' ad' S' H' g rs i => by
  have q1' : SqL X.K H' a us := sqL_mono rs.sub (sqL_mono g.f q1)
  have q2' : SqL X.K H' b ws := sqL_mono rs.sub (sqL_mono g.f q2)
  have d1' := DPs.mono g xs us d1
  have d2' := DPs.mono g ys ws d2
  refine ⟨fun d e => ?_, fun hi => ⟨us, ws, q1', q2', ?_⟩⟩
  · rw [List.getElem?_zipWith_eq_some] at e
    obtain ⟨x, y, e1, e2, rfl⟩ := e
    obtain ⟨u, f1, f2⟩ := d1'.at e1
    obtain ⟨w, f3, f4⟩ := d2'.at e2
    refine ⟨⟨us, ws, u, w, q1', q2', f1, f3⟩, fun v H'' ⟨T, x2, y2, ev, hT, eH, k1, k2⟩ => ?_⟩
    have z1 := k1 us q1'
    have z2 := k2 ws q2'
    rw [f1] at z1; rw [f3] at z2
    cases z1; cases z2
    subst ev eH
    exact pair_new rs hT f2 f4
  · rw [List.length_zipWith] at hi
    rw [← d1.length, ← d2.length]; omega
theorem itOk_zipT {F ad L} {xs ys : List D} {a b : Addr} {us ws : List V} (q1 : SqT X.K F a us) (d1 : DPs X.K F ad L xs us) (q2 : SqT X.K F b ws) (d2 : DPs X.K F ad L ys ws) : ItOk X F ad L (List.zipWith pairD xs ys) (RZ.ItzT X.K a b) := fun F' ad' S' H' g rs i => by
  have q1' : SqT X.K H' a us := sqT_mono rs.sub (sqT_mono g.f q1)
  have q2' : SqT X.K H' b ws := sqT_mono rs.sub (sqT_mono g.f q2)
  have d1' := DPs.mono g xs us d1
  have d2' := DPs.mono g ys ws d2
  refine ⟨fun d e => ?_, fun hi => ⟨us, ws, q1', q2', ?_⟩⟩
  · rw [List.getElem?_zipWith_eq_some] at e
    obtain ⟨x, y, e1, e2, rfl⟩ := e
    obtain ⟨u, f1, f2⟩ := d1'.at e1
    obtain ⟨w, f3, f4⟩ := d2'.at e2
    refine ⟨⟨us, ws, u, w, q1', q2', f1, f3⟩, fun v H'' ⟨T, x2, y2, ev, hT, eH, k1, k2⟩ => ?_⟩
    have z1 := k1 us q1'
    have z2 := k2 ws q2'
    rw [f1] at z1; rw [f3] at z2
    cases z1; cases z2
    subst ev eH
    exact pair_new rs hT f2 f4
  · rw [List.length_zipWith] at hi
    rw [← d1.length, ← d2.length]; omega
theorem fi_zip {e e2 : Expr} {t : Env → M (List D)} {p pos tpos : Pos} {elts : List Expr} {kk : Nat} (hg : Gl X "zip") (hm : X.mg "zip" = none) (ha : FA X W [e, e2] t)
    (hs : starEach [e, e2] X.env = (false, eval e X.env) :: starEach [e2] X.env := by rfl) (hpl : (backTo pos (starEach [e2] X.env)).any (·.1) = false := by rfl) :
    FI X W (.Tuple elts kk tpos) (.Call (.Name "zip" p) [e, e2] [] pos) (itz t) := by
  refine ⟨_, RZ.pi_zipA hg hm ha.run hs hpl, fun σ H R F ad env S re rs h => ⟨F, ad, env, S, re, rs, Fin.seq re h fun F1 ad1 S1 ds vs H1 n1 re1 rs1 dp1 h1 => ?_⟩⟩
  unfold zipM at h1
  split at h1
  · obtain ⟨v, r, rfl, ⟨a, us, rfl, f1, f2⟩, w, r2, rfl, ⟨b, ws, rfl, f3, f4⟩, e5⟩ := dp1
    cases e5
    exact ⟨a, b, us, ws, rfl, .inl ⟨SqL.of (rs1.sub _ _ f1), SqL.of (rs1.sub _ _ f3), Fin.pure rs1 h1 (itOk_zipL (SqL.of f1) f2 (SqL.of f3) f4)⟩⟩
  · obtain ⟨v, r, rfl, ⟨a, us, rfl, f1, f2⟩, w, r2, rfl, ⟨b, ws, rfl, f3, f4⟩, e5⟩ := dp1
    cases e5
    exact ⟨a, b, us, ws, rfl, .inr ⟨sqT_mono rs1.sub f1.sq, sqT_mono rs1.sub f3.sq, Fin.pure rs1 h1 (itOk_zipT f1.sq f2 f3.sq f4)⟩⟩
  · exact h1.elim
end
theorem bo_max : bootBuiltins "max" = some (.builtin "max") := by decide +kernel
theorem bo_min : bootBuiltins "min" = some (.builtin "min") := by decide +kernel
end Fx

end
/-! ## Fx14 -/
section
namespace Fx
open PySem PySem.Spec PyProof.Rows L2
variable [tb : Tabl]

/-! ### own exceptions: their making -/
def setter (f : Str) (p1 p2 p3 p4 : Pos) : Stmt := .Assign [.Attribute (.Name "self" p1) f p2] (.Name f p3) p4
def spI1 (K : PySem.W.Frag) (f : Str) : Sp := fun vs H Q _ => ∃ (a C : Addr) (y : V), vs = [.ref a, y] ∧ OexC K C ∧ PySem.W.findIn K (.ref C) f = some none ∧ H a = some (exo a C none) ∧
  ∀ dx, H dx = none → dx ≠ a → Q .non (upd (upd H dx (exd dx [(f, y)])) a (exo a C (some dx)))
def spI2 (K : PySem.W.Frag) (f g : Str) : Sp := fun vs H Q _ => ∃ (a C : Addr) (y z : V), vs = [.ref a, y, z] ∧ OexC K C ∧ PySem.W.findIn K (.ref C) f = some none ∧ PySem.W.findIn K (.ref C) g = some none ∧ H a = some (exo a C none) ∧
  ∀ dx, H dx = none → dx ≠ a → Q .non (upd (upd (upd H dx (exd dx [(f, y)])) a (exo a C (some dx))) dx (exd dx [(g, z), (f, y)]))
section
variable {P : Program} {w : World} {K : PySem.W.Frag} {mg : Str → Option Value} {base : Heap}
theorem vis_par {N ps : List Str} {sc : Scope} (S : FnScope N ps sc) {x : Str} (h : x ∈ ps) : Vis sc x := (S.par x h).elim .inl fun k => .inr (.inl k)
theorem init1 {f q : Str} {st : Stmt} {fI : Addr} {fd : FuncData} {p1 p2 p3 p4 : Pos} (F : Fun K "__init__" q st fI fd) (S : FnScope ["self", f] ["self", f] (defScope st)) (hb : defBody st = [setter f p1 p2 p3 p4])
    (h1 : (f == ("__debug__" : Str)) = false) (h2 : (f == ("__classdict__" : Str)) = false) : FnOk P w K mg base (L2.CX P w) 1 fI fd ["self", f] (spI1 K f) := by
  refine F.okX S (fun vs H Q E ⟨a, C, y, e, _⟩ => by rw [e]; rfl) fun cdv A outer s H vs Q E hr ⟨a, C, y, e, T, hno, ha, k⟩ => ?_
  subst e
  rw [hb]
  have v0 : Vis (defScope st) "self" := vis_par S (by simp)
  have v1 : Vis (defScope st) f := vis_par S (by simp)
  refine ⟨_, pss_one (ps_ost (pe_var (i := 0) rfl v0) (pe_var (i := 1) rfl v1 h1 h2)), ?_⟩
  exact ⟨y, rfl, .ref a, rfl, a, C, rfl, T, hno, .inl ⟨ha, fun dx hd hne => k dx hd hne⟩⟩
theorem init2 {f g q : Str} {st : Stmt} {fI : Addr} {fd : FuncData} {p1 p2 p3 p4 q1 q2 q3 q4 : Pos} (F : Fun K "__init__" q st fI fd) (S : FnScope ["self", f, g] ["self", f, g] (defScope st)) (hb : defBody st = [setter f p1 p2 p3 p4, setter g q1 q2 q3 q4])
    (h1 : (f == ("__debug__" : Str)) = false) (h2 : (f == ("__classdict__" : Str)) = false) (h3 : (g == ("__debug__" : Str)) = false) (h4 : (g == ("__classdict__" : Str)) = false) : FnOk P w K mg base (L2.CX P w) 1 fI fd ["self", f, g] (spI2 K f g) := by
  refine F.okX S (fun vs H Q E ⟨a, C, y, z, e, _⟩ => by rw [e]; rfl) fun cdv A outer s H vs Q E hr ⟨a, C, y, z, e, T, hno, hno2, ha, k⟩ => ?_
  subst e
  rw [hb]
  have v0 : Vis (defScope st) "self" := vis_par S (by simp)
  have v1 : Vis (defScope st) f := vis_par S (by simp)
  have v2 : Vis (defScope st) g := vis_par S (by simp)
  refine ⟨_, pss_cons (ps_ost (pe_var (i := 0) rfl v0) (pe_var (i := 1) rfl v1 h1 h2)) (pss_one (ps_ost (pe_var (i := 0) rfl v0) (pe_var (i := 2) rfl v2 h3 h4))), ?_⟩
  refine ⟨y, rfl, .ref a, rfl, a, C, rfl, T, hno, .inl ⟨ha, fun dx hd hne => ?_⟩⟩
  exact ⟨z, rfl, .ref a, rfl, a, C, rfl, T, hno2, .inr ⟨dx, [(f, y)], upd_same, by rw [upd_ne hne, upd_same], by simp, k dx hd hne⟩⟩
end
/-- what the written part says of the class -/
structure XCls (K : PySem.W.Frag) (mg : Str → Option Value) (x : Str) (C : Addr) : Prop where
  g : mg x = some (.ref C)
  T : OexC K C
structure XAt1 (K : PySem.W.Frag) (mg : Str → Option Value) (x f : Str) : Prop where
  ex : ∃ (C fI : Addr) (fd : FuncData) (q : Str) (st : Stmt) (p1 p2 p3 p4 : Pos), XCls K mg x C ∧ PySem.W.findIn K (.ref C) f = some none ∧ PySem.W.findIn K (.ref C) "__init__" = some (some (.ref fI)) ∧ PySem.W.typeIn K (.ref fI) = some (.type "function") ∧
    Fun K "__init__" q st fI fd ∧ FnScope ["self", f] ["self", f] (defScope st) ∧ defBody st = [setter f p1 p2 p3 p4] ∧ Binds K fd ["self", f] []
structure XAt2 (K : PySem.W.Frag) (mg : Str → Option Value) (x f g : Str) : Prop where
  ex : ∃ (C fI : Addr) (fd : FuncData) (q : Str) (st : Stmt) (p1 p2 p3 p4 q1 q2 q3 q4 : Pos), XCls K mg x C ∧ PySem.W.findIn K (.ref C) f = some none ∧ PySem.W.findIn K (.ref C) g = some none ∧ PySem.W.findIn K (.ref C) "__init__" = some (some (.ref fI)) ∧ PySem.W.typeIn K (.ref fI) = some (.type "function") ∧
    Fun K "__init__" q st fI fd ∧ FnScope ["self", f, g] ["self", f, g] (defScope st) ∧ defBody st = [setter f p1 p2 p3 p4, setter g q1 q2 q3 q4] ∧ Binds K fd ["self", f, g] []
theorem heap_end {H : Hp} {a dx C : Addr} {o : HO} (ha : H a = none) (hne : dx ≠ a) (G : Hp) (h1 : ∀ b, b ≠ dx → b ≠ a → G b = H b) : upd (del G a) dx o = upd H dx o := by
  funext b
  by_cases e : b = dx
  · subst e; rw [upd_same, upd_same]
  · rw [upd_ne e, upd_ne e]
    by_cases e2 : b = a
    · subst e2; rw [del_same, ha]
    · rw [del_ne e2, h1 b e e2]
section
variable {X : Cx} {W : WX} {k : Nat} {x : Str} {p pos pos2 : Pos} {e e2 : Expr} {t : Env → M (List D)}
def rz1 (x : String) (f : Str) (t : Env → M (List D)) : Env → MS := fun env => lft (t env) env fun ds => fun S => match ds with
  | [d] => .ex ⟨x, [(f, d)]⟩ env S
  | _ => .no
def rz2 (x : String) (f g : Str) (t : Env → M (List D)) : Env → MS := fun env => lft (t env) env fun ds => fun S => match ds with
  | [d, d2] => .ex ⟨x, [(g, d2), (f, d)]⟩ env S
  | _ => .no
theorem fs_raise1 {x : String} {f : Str} (T : XAt1 X.K X.mg (Str.ofString x) f) (hc : X.calm = true) (tk : Takes X W) (hr : Room (k + 2) X.A) (hg : Gl X (Str.ofString x)) (ha : FA X W [e] t)
    (h1 : (f == ("__debug__" : Str)) = false := by decide) (h2 : (f == ("__classdict__" : Str)) = false := by decide)
    (hdb : (Str.ofString x == ("__debug__" : Str)) = false := by decide) (he : starEach (e :: []) X.env = (false, eval e X.env) :: starEach [] X.env := by rfl) (hpl : (backTo pos (starEach [] X.env)).any (·.1) = false := by rfl) :
    FS X W (.Raise (some (.Call (.Name (Str.ofString x) p) [e] [] pos)) none pos2) (rz1 x f t) := by
  obtain ⟨C, fI, fd, q, st, p1, p2, p3, p4, T, hno, iC, tI, F, S, hb, B⟩ := T.ex
  refine ⟨PS.weakI (ps_raise hc tk (pmk_oex (dvs := []) T.T iC tI (init1 F S hb h1 h2) (hr.mono (by omega)) B .nil passL hg T.g ha.run hdb he hpl)) fun D σ H hl ⟨F, ad, env, S, re, rs, h⟩ => ⟨F, ad, env, S, re, rs, FinS.seqE re hl h fun F1 ad1 S1 ds vs H1 n1 re1 rs1 dp1 h1 => ?_⟩⟩
  match ds, dp1, h1 with
  | [d], ⟨v, r, e1, d1, e2⟩, h1 =>
    cases e2; subst e1
    refine ⟨by simp, fun a ha => ⟨a, C, v, rfl, T.T, hno, upd_same, fun dx hd hne => ⟨rfl, dx, [(f, v)], upd_same, by rw [upd_ne hne, upd_same], by rw [upd_ne hne] at hd; exact hd, ?_⟩⟩⟩
    have hd' : H1 dx = none := by rw [upd_ne hne] at hd; exact hd
    rw [heap_end (C := C) ha hne _ fun b h1 h2 => by rw [upd_ne h2, upd_ne h1, upd_ne h2]]
    have g : Gr F1 ad1 S1.length (upd F1 dx (.xd [(f, v)])) ad1 S1.length := Gr.alloc (F_none rs1 hd')
    exact h1 _ _ σ _ ad1 _ (Nx.alloc rs1 hd') (rs1.alloc hd') (re1.mono g) hl ⟨C, dx, [(f, v)], T.g, rfl, rfl, upd_same, rfl, v, [], rfl, DP.mono g d v d1, rfl⟩
  | [], _, h1 => exact h1.elim
  | _ :: _ :: _, _, h1 => exact h1.elim
theorem fs_raise2 {x : String} {f g : Str} (T : XAt2 X.K X.mg (Str.ofString x) f g) (hc : X.calm = true) (tk : Takes X W) (hr : Room (k + 2) X.A) (hg : Gl X (Str.ofString x)) (ha : FA X W [e, e2] t)
    (h1 : (f == ("__debug__" : Str)) = false := by decide) (h2 : (f == ("__classdict__" : Str)) = false := by decide) (h3 : (g == ("__debug__" : Str)) = false := by decide) (h4 : (g == ("__classdict__" : Str)) = false := by decide)
    (hdb : (Str.ofString x == ("__debug__" : Str)) = false := by decide) (he : starEach (e :: [e2]) X.env = (false, eval e X.env) :: starEach [e2] X.env := by rfl) (hpl : (backTo pos (starEach [e2] X.env)).any (·.1) = false := by rfl) :
    FS X W (.Raise (some (.Call (.Name (Str.ofString x) p) [e, e2] [] pos)) none pos2) (rz2 x f g t) := by
  obtain ⟨C, fI, fd, q, st, p1, p2, p3, p4, q1, q2, q3, q4, T, hno, hno2, iC, tI, F, S, hb, B⟩ := T.ex
  refine ⟨PS.weakI (ps_raise hc tk (pmk_oex (dvs := []) T.T iC tI (init2 F S hb h1 h2 h3 h4) (hr.mono (by omega)) B .nil passL hg T.g ha.run hdb he hpl)) fun D σ H hl ⟨F, ad, env, S, re, rs, h⟩ => ⟨F, ad, env, S, re, rs, FinS.seqE re hl h fun F1 ad1 S1 ds vs H1 n1 re1 rs1 dp1 h1 => ?_⟩⟩
  match ds, dp1, h1 with
  | [d, d'], ⟨v, r, e1, d1, v', r', e1', d1', e2⟩, h1 =>
    cases e2; subst e1'; subst e1
    refine ⟨by simp, fun a ha => ⟨a, C, v, v', rfl, T.T, hno, hno2, upd_same, fun dx hd hne => ⟨rfl, dx, [(g, v'), (f, v)], by rw [upd_ne (Ne.symm hne), upd_same], upd_same, by rw [upd_ne hne] at hd; exact hd, ?_⟩⟩⟩
    have hd' : H1 dx = none := by rw [upd_ne hne] at hd; exact hd
    rw [heap_end (C := C) ha hne _ fun b h1 h2 => by rw [upd_ne h1, upd_ne h2, upd_ne h1, upd_ne h2]]
    have g1 : Gr F1 ad1 S1.length (upd F1 dx (.xd [(g, v'), (f, v)])) ad1 S1.length := Gr.alloc (F_none rs1 hd')
    exact h1 _ _ σ _ ad1 _ (Nx.alloc rs1 hd') (rs1.alloc hd') (re1.mono g1) hl ⟨C, dx, [(g, v'), (f, v)], T.g, rfl, rfl, upd_same, rfl, v', [v], rfl, DP.mono g1 d' v' d1', v, [], rfl, DP.mono g1 d v d1, rfl⟩
  | [], _, h1 => exact h1.elim
  | [_], _, h1 => exact h1.elim
  | _ :: _ :: _ :: _, _, h1 => exact h1.elim
end

/-! ### their catching -/
/-- an exception of the class x is one of the class y -/
structure SubX (K : PySem.W.Frag) (mg : Str → Option Value) (x : String) (c : Value) (b : Bool) : Prop where
  ex : ∃ C, mg (Str.ofString x) = some (.ref C) ∧ PySem.W.exmOne K (.ref C) c = some b
def noex : RsS → RsS
  | .ex _ _ _ => .no
  | r => r
theorem fin_noex {X : Cx} {W W' : WX} {D : Ends} {F ad S H} {r : RsS} (h : FinS X W D F ad S H (noex r)) : FinS X W' D F ad S H r := by
  cases r with
  | no => exact h
  | ex _ _ _ => exact h.elim
  | ok f S' => cases f <;> exact h
def tryO (tab : List (String × Bool)) (b g : Env → MS) : Env → MS := fun env S => match b env S with
  | .ex e env' S' => match tab.lookup e.cls with
    | some true => noex (g env' S')
    | some false => .ex e env' S'
    | none => .no
  | r => r
section
variable {X : Cx} {W : WX} {x : Str} {c : Value} {body suite : List Stmt} {b₀ : Stmt} {np pos pos' : Pos} {b g : Env → MS}
theorem mem_lk {β : Type} {k : String} {b : β} : ∀ {l : List (String × β)}, l.lookup k = some b → (k, b) ∈ l
  | [], h => by cases h
  | (k', b') :: r, h => by
    simp only [List.lookup] at h
    split at h
    · rename_i q
      cases h
      rw [show k = k' from by simpa using q]; exact List.mem_cons_self
    · exact List.mem_cons_of_mem _ (mem_lk h)
theorem exm_tab {K : PySem.W.Frag} {mg : Str → Option Value} {tab : List (String × Bool)} (ht : ∀ p ∈ tab, SubX K mg p.1 c p.2) {F ad L} {e : Ex} {cls : Value} {dd : Option Addr} {H : Hp} (er : ER K mg F ad L e cls dd H) {r : Bool} (hl : tab.lookup e.cls = some r) : PySem.W.exmOne K cls c = some r := by
  obtain ⟨C, a, fs, h1, rfl, h2, h3, h4, h5⟩ := er
  obtain ⟨C', q1, q2⟩ := (ht _ (mem_lk hl)).ex
  rw [h1] at q1; cases q1
  exact q2
theorem fs_try_only (tab : List (String × Bool)) (ht : ∀ p ∈ tab, SubX X.K X.mg p.1 c p.2) (hs : X.stack = X.env :: X.outer) (hf : X.env.frame = some X.env.locals) (hc : Names X x c) (tk : Takes X W)
    (hb : ∀ (W : WX) (pn : List (Addr × Obj)) (xe : Value → Shared → Prop), Takes (X.tr pn xe) W → PassesOwn (model X.prog X.w) X.A X.env xe → FSs (X.tr pn xe) W body b)
    (hsu : ∀ (a : Addr) (oe : Obj) (pn : List (Addr × Obj)), FSs (X.suite a ((a, oe) :: pn)) W0 (b₀ :: suite) g) :
    FS X W (.Try body [.ExceptHandler (some (.Name x np)) none (b₀ :: suite) pos'] [] [] pos) (tryO tab b g) := by
  refine ⟨PS.weakI (ps_try_only (tb := fun W => tS X W b) (ts := fun _ _ _ => tS X W0 g) hs hf hc tk (fun W pn xe tk hp => (hb W pn xe tk hp).run) (fun a oe cls d pn _ _ => (hsu a oe pn).run)) fun D σ H hl ⟨F, ad, env, S, re, rs, h⟩ => ⟨F, ad, env, S, re, rs, ?_⟩⟩
  simp only [tryO] at h
  cases q : b env S with
  | no => rw [q] at h; exact h
  | ok f S' => rw [q] at h; cases f <;> exact h
  | ex e env' S' =>
    rw [q] at h
    simp only at h
    refine fun cls dd σ' F' ad' H' n r re' l er => ?_
    cases q2 : tab.lookup e.cls with
    | none => rw [q2] at h; exact h.elim
    | some v =>
      rw [q2] at h
      refine ⟨v, exm_tab ht er q2, fun hv a ha => ?_, fun hv => ?_⟩
      · subst hv
        exact ⟨F', ad', env', S', re', r, fin_noex (FinS.from n h)⟩
      · subst hv
        exact h cls dd σ' F' ad' H' n r re' l er
end
end Fx

end
/-! ## Fx15 -/
section
namespace Fx
open PySem PySem.Spec PyProof.Rows L2
variable [tb : Tabl]

/-! ### in an except suite: the error that is held -/
/-- what the written part says of a class whose instances are looked at -/
structure XLook (K : PySem.W.Frag) (mg : Str → Option Value) (x : String) (fs : List Str) : Prop where
  ex : ∃ C, mg (Str.ofString x) = some (.ref C) ∧ XfC K C ∧ L2.ExcC K C ∧ ∀ f ∈ fs, PySem.W.findIn K (.ref C) f = some none
/-- an instance of x is one of y -/
structure KitAt (K : PySem.W.Frag) (mg : Str → Option Value) (x : String) (y : Str) (b : Bool) : Prop where
  ex : ∃ C D, mg (Str.ofString x) = some (.ref C) ∧ mg y = some (.ref D) ∧ PySem.W.kitOne K (.ref C) (.ref D) = some b
section
variable {X : Cx} {a dd C : Addr} {oe : Obj} {pn : List (Addr × Obj)} {i : Nat} {n : Str} {p p2 pos : Pos}
theorem exc_kit {pins : List (Addr × Obj)} {σ : L2.St} {H : Hp} {s : Shared} {fs : List (Str × V)} (I : Inv (X.suite a ((a, oe) :: pn)) pins σ H s) (T : L2.ExcC X.K C) (hz : Zc (.ref C) (some dd) oe) (hf : ∃ vs, oe.data = .fields vs) (ed : H dd = some (.xd fs)) :
    ∃ od, PySem.W.InstAt s.heap a oe C (some od) ∧ PySem.W.KitX X.K (.ref a) (.ref C) (fun h => PySem.W.InstAt h a oe C (some od)) := by
  obtain ⟨ha, _⟩ := I.pin (a, oe) (List.mem_append_left _ List.mem_cons_self)
  obtain ⟨vs, hd⟩ := hf
  have hx : ObjOk X.prog X.w H s.heap dd (.xd fs) := I.hok dd _ ed
  obtain ⟨mA, hns, hr⟩ := hx
  obtain ⟨od, ho, hl⟩ := lookIn_ns hns
  refine ⟨od, ⟨ha, hz.1, by unfold PySem.W.notCls; rw [hd] <;> rfl, by rw [hz.2]; exact ho⟩, PySem.W.kitx_exc ?_ T.hg T.hk T.hs T.ha T.hn T.ht T.hm⟩
  obtain ⟨cd, hc, _⟩ := PySem.W.any_some T.hd
  rw [hc]; rfl
def rIsF (K : PySem.W.Frag) (C a dd : Addr) : List V → Hp → VK → Prop := fun xs H Q => ∃ (c : V) (cv : Value) (b : Bool) (fs : List (Str × V)), xs = [.ref a, c] ∧ ClsV c cv ∧ H dd = some (.xd fs) ∧ PySem.W.kitOne K (.ref C) cv = some b ∧ Q (.bl b) H
theorem call_isF (T : L2.ExcC X.K C) (hz : Zc (.ref C) (some dd) oe) (hf : ∃ vs, oe.data = .fields vs) : CallR (X.suite a ((a, oe) :: pn)) (.builtin "isinstance") (rIsF X.K C a dd) := by
  intro pins s σ H xs us Q I r h
  obtain ⟨c, cv, b, fs, rfl, hcv, ed, e, q⟩ := h
  obtain ⟨u1, u2, rfl, r1, r2⟩ := vals2 r
  have e2 := hcv.eq r2
  subst e2
  cases (show u1 = Value.ref a from r1)
  obtain ⟨od, J, Z⟩ := exc_kit I T hz hf ed
  exact PySem.W.kia_one Z I.kIn J e (fun z => nomatch z) fun tk => ⟨.bl b, H, I.tok tk, rfl, q⟩
def rIsFT (K : PySem.W.Frag) (C a dd : Addr) : List V → Hp → VK → Prop := fun xs H Q => ∃ (tp : Addr) (cs : List V) (us : List Value) (b : Bool) (fs : List (Str × V)), xs = [.ref a, .ref tp] ∧ H tp = some (.tup cs) ∧ Paired ClsV cs us ∧ H dd = some (.xd fs) ∧ PySem.W.kitAny K (.ref C) us = some b ∧ Q (.bl b) H
theorem call_isFT (T : L2.ExcC X.K C) (hz : Zc (.ref C) (some dd) oe) (hf : ∃ vs, oe.data = .fields vs) : CallR (X.suite a ((a, oe) :: pn)) (.builtin "isinstance") (rIsFT X.K C a dd) := by
  intro pins s σ H xs us Q I r h
  obtain ⟨tp, cs, ws, b, fs, rfl, hT, k, ed, e, q⟩ := h
  obtain ⟨u1, u2, rfl, r1, r2⟩ := vals2 r
  cases (show u1 = Value.ref a from r1)
  cases (show u2 = Value.ref tp from r2)
  obtain ⟨od, J, Z⟩ := exc_kit I T hz hf ed
  obtain ⟨_, its, rv, o, h1, h2, m, h3⟩ := (show ObjOk X.prog X.w H s.heap tp (.tup cs) from I.hok tp _ hT)
  have e3 := ClsV.all k rv
  subst e3
  obtain ⟨oc, od', dt, sl⟩ := o
  simp only at h2 h3
  subst h2 h3
  exact PySem.W.kia_tup Z I.kIn J h1 e (fun z => nomatch z) fun tk => ⟨.bl b, H, I.tok tk, rfl, q⟩
/-- isinstance(e, Y) -/
def isE (a dd i : Nat) (r : Option Bool) : Env → M D := fun env => match env[i]? with
  | some (some (.err m dm _ _)) => if m = a ∧ dm = dd then (match r with | some b => pur (.bl b) | none => mno) else mno
  | _ => mno
theorem at_err {K : PySem.W.Frag} {F ad L env σ} {d : D} (re : RE K F ad L env σ) (h : env[i]? = some (some d)) : ∃ v, σ[i]? = some (some v) ∧ DP K F ad L d v := re i d h
theorem Fin.from1 {α β : Type} {X : Cx} {W : WX} {RR : Hp → (Nat → Addr) → Nat → α → β → Prop} {σ : L2.St} {F ad S H F1 ad1 H1} {r : Rs α} {Q : β → Hp → Prop} (n : Nx F ad S H F1 ad1 S H1) (h : Fin X W RR σ F ad S H r Q) : Fin X W RR σ F1 ad1 S H1 r Q := by
  cases r with
  | no => exact h
  | ok d S' => exact fun v F' ad' H' n' => h v F' ad' H' (n.trans n')
  | ex e S' => exact fun c dd F' ad' H' n' => h c dd F' ad' H' (n.trans n')
theorem isE_key {W : WX} {r : Option Bool} : ∀ (F : Hp) (ad : Nat → Addr) (env : Env) (S : Store) (σ : L2.St) (H : Hp) (Q : VK), RE X.K F ad S.length env σ → RS X.K F ad S H → Fin (X.suite a ((a, oe) :: pn)) W (DP X.K) σ F ad S H (isE a dd i r env S) Q →
      ∃ b vs, r = some b ∧ σ[i]? = some (some (.ref a)) ∧ H dd = some (.xd vs) ∧ Q (.bl b) H := fun F ad env S σ H Q re rs h => by
    unfold isE at h
    cases q : env[i]? with
    | none => rw [q] at h; exact h.elim
    | some z =>
      rw [q] at h
      cases z with
      | none => exact h.elim
      | some d =>
        cases d <;> first
          | exact h.elim
          | skip
        rename_i m d0 ns ds
        simp only at h
        by_cases c : m = a ∧ d0 = dd
        · rw [if_pos c] at h
          obtain ⟨rfl, rfl⟩ := c
          cases r with
          | none => exact h.elim
          | some b =>
            obtain ⟨v, s1, ev, vs, f1, f2, f3⟩ := re i _ q
            subst ev
            exact ⟨b, vs, rfl, s1, rs.sub _ _ f1, Fin.pure (X := X.suite m ((m, oe) :: pn)) (d := D.bl b) rs h rfl⟩
        · rw [if_neg c] at h; exact h.elim
theorem fe_isE {x : String} {y : Str} {fs : List Str} {tab : List (String × Bool)} {W : WX} {py : Pos} (L : XLook X.K X.mg x fs) (hx : X.mg (Str.ofString x) = some (.ref C)) (ht : ∀ p ∈ tab, KitAt X.K X.mg p.1 y p.2) (hz : Zc (.ref C) (some dd) oe) (hf : ∃ vs, oe.data = .fields vs)
    (hg : Gl X "isinstance") (hm : X.mg "isinstance" = none) (hgy : Gl X y) (hN : X.N[i]? = some n) (hv : Vis X.env.scope n) (hd : (n == ("__debug__" : Str)) = false := by decide) (hcd : (n == ("__classdict__" : Str)) = false := by decide) (hdy : (y == ("__debug__" : Str)) = false := by decide)
    (he : starEach [Expr.Name n p2, Expr.Name y py] X.env = (false, eval (Expr.Name n p2) X.env) :: starEach [Expr.Name y py] X.env := by rfl) (hpl : (backTo pos (starEach [Expr.Name y py] X.env)).any (·.1) = false := by rfl) :
    FE (X.suite a ((a, oe) :: pn)) W (.Call (.Name "isinstance" p) [.Name n p2, .Name y py] [] pos) (isE a dd i (tab.lookup x)) := by
  obtain ⟨C', e1, xf, ec, _⟩ := L.ex
  rw [hx] at e1; cases e1
  have key := isE_key (X := X) (a := a) (dd := dd) (oe := oe) (pn := pn) (i := i) (W := W) (r := tab.lookup x)
  cases q : tab.lookup x with
  | none =>
    refine ⟨⟨fun pins s σ H Q I ⟨F, ad, env, S, re, rs, h⟩ => ?_⟩⟩
    rw [← q] at h
    obtain ⟨b, _, e, _⟩ := key F ad env S σ H Q re rs h
    rw [q] at e; cases e
  | some b =>
    obtain ⟨C2, D, k1, k2, k3⟩ := (ht _ (mem_lk q)).ex
    rw [hx] at k1; cases k1
    refine ⟨PE.weak (pe_callB (call_isF ec hz hf) hg hm bo_isinstance (pa_cons (pe_var (i := i) hN hv hd hcd) (pa_cons (pe_glob (v := .ref D) hgy k2 rfl hdy) pa_nil)) (he := he) (hpl := hpl)) fun σ H Q ⟨F, ad, env, S, re, rs, h⟩ => ?_⟩
    rw [← q] at h
    obtain ⟨b', vs, e, s1, s2, qq⟩ := key F ad env S σ H Q re rs h
    rw [q] at e; cases e
    exact ⟨.ref a, s1, .ref D, .ref D, b, vs, rfl, .own D, s2, k3, qq⟩
/-- isinstance(e, (Y, ..)) -/
structure KitTAt (K : PySem.W.Frag) (mg : Str → Option Value) (x : String) (ys : List Str) (b : Bool) : Prop where
  ex : ∃ C Ds, mg (Str.ofString x) = some (.ref C) ∧ Paired (fun y D => mg y = some (.ref D)) ys Ds ∧ PySem.W.kitAny K (.ref C) (Ds.map Value.ref) = some b
theorem pa_refs : ∀ {ys : List (Str × Pos)} {Ds : List Addr}, Paired (fun (y : Str) (D : Addr) => X.mg y = some (.ref D)) (ys.map (·.1)) Ds → (∀ y ∈ ys, Gl X y.1 ∧ (y.1 == ("__debug__" : Str)) = false) → PA X (ys.map fun y => Expr.Name y.1 y.2) (fun _ H Q => Q (Ds.map V.ref) H)
  | [], _, .nil, _ => pa_nil
  | y :: ys, _, .cons h k, g => pa_cons (pe_glob (v := .ref _) (g y List.mem_cons_self).1 h rfl (g y List.mem_cons_self).2) (pa_refs k fun z hz => g z (List.mem_cons_of_mem _ hz))
theorem clsV_refs : ∀ Ds : List Addr, Paired ClsV (Ds.map V.ref) (Ds.map Value.ref)
  | [] => .nil
  | D :: Ds => .cons (.own D) (clsV_refs Ds)
theorem fe_isET {x : String} (ys : List (Str × Pos)) {fs : List Str} {tab : List (String × Bool)} {W : WX} {k : Nat} {tp : Pos} (L : XLook X.K X.mg x fs) (hx : X.mg (Str.ofString x) = some (.ref C)) (ht : ∀ p ∈ tab, KitTAt X.K X.mg p.1 (ys.map (·.1)) p.2) (hz : Zc (.ref C) (some dd) oe) (hf : ∃ vs, oe.data = .fields vs)
    (hg : Gl X "isinstance") (hm : X.mg "isinstance" = none) (hgy : ∀ y ∈ ys, Gl X y.1 ∧ (y.1 == ("__debug__" : Str)) = false) (hys : ys.length ≤ 1000) (hN : X.N[i]? = some n) (hv : Vis X.env.scope n) (hd : (n == ("__debug__" : Str)) = false := by decide) (hcd : (n == ("__classdict__" : Str)) = false := by decide)
    (he : starEach [Expr.Name n p2, Expr.Tuple (ys.map fun y => Expr.Name y.1 y.2) k tp] X.env = (false, eval (Expr.Name n p2) X.env) :: starEach [Expr.Tuple (ys.map fun y => Expr.Name y.1 y.2) k tp] X.env := by rfl) (hpl : (backTo pos (starEach [Expr.Tuple (ys.map fun y => Expr.Name y.1 y.2) k tp] X.env)).any (·.1) = false := by rfl) :
    FE (X.suite a ((a, oe) :: pn)) W (.Call (.Name "isinstance" p) [.Name n p2, .Tuple (ys.map fun y => Expr.Name y.1 y.2) k tp] [] pos) (isE a dd i (tab.lookup x)) := by
  obtain ⟨C', e1, xf, ec, _⟩ := L.ex
  rw [hx] at e1; cases e1
  have key := isE_key (X := X) (a := a) (dd := dd) (oe := oe) (pn := pn) (i := i) (W := W) (r := tab.lookup x)
  cases q : tab.lookup x with
  | none =>
    refine ⟨⟨fun pins s σ H Q I ⟨F, ad, env, S, re, rs, h⟩ => ?_⟩⟩
    rw [← q] at h
    obtain ⟨b, _, e, _⟩ := key F ad env S σ H Q re rs h
    rw [q] at e; cases e
  | some b =>
    obtain ⟨C2, Ds, k1, k2, k3⟩ := (ht _ (mem_lk q)).ex
    rw [hx] at k1; cases k1
    refine ⟨PE.weak (pe_callB (call_isFT ec hz hf) hg hm bo_isinstance (pa_cons (pe_var (i := i) hN hv hd hcd) (pa_cons (pe_tup (pa_refs (X := X.suite a ((a, oe) :: pn)) (ys := ys) k2 hgy)) pa_nil)) (he := he) (hpl := hpl)) fun σ H Q ⟨F, ad, env, S, re, rs, h⟩ => ?_⟩
    rw [← q] at h
    have hl : Ds.length ≤ 1000 := by have := k2.length; simp at this; omega
    refine ⟨.ref a, (key F ad env S σ H _ re rs h).choose_spec.choose_spec.2.1, by rw [List.length_map]; exact Nat.le_trans hl (by decide), fun tp htp => ?_⟩
    obtain ⟨b', vs, e, s1, s2, qq⟩ := key (upd F tp (.tup (Ds.map V.ref))) ad env S σ (upd H tp (.tup (Ds.map V.ref))) Q (re.mono (Gr.alloc (F_none rs htp))) (rs.alloc htp) (Fin.from1 (Nx.alloc rs htp) h)
    rw [q] at e; cases e
    exact ⟨tp, Ds.map V.ref, Ds.map Value.ref, b, vs, rfl, upd_same, clsV_refs Ds, s2, k3, qq⟩
/-- e.f -/
def fldE (a dd i : Nat) (f : Str) : Env → M D := fun env => match env[i]? with
  | some (some (.err m dm ns ds)) => if m = a ∧ dm = dd then opt ((ns.zip ds).lookup f) else mno
  | _ => mno
theorem fld_look {K : PySem.W.Frag} {F ad L} {f : Str} {d : D} : ∀ {ns : List Str} {ds : List D} {vs : List (Str × V)}, vs.map (·.1) = ns → DPs K F ad L ds (vs.map (·.2)) → (ns.zip ds).lookup f = some d → ∃ v, vs.lookup f = some v ∧ DP K F ad L d v
  | [], _, _, _, _, h => by simp at h
  | n :: ns, [], _, _, _, h => by simp at h
  | n :: ns, e :: ds, [], h1, _, _ => by simp at h1
  | n :: ns, e :: ds, (m, u) :: vs, h1, ⟨v, r, e1, h2, h3⟩, h => by
    simp only [List.map_cons, List.cons.injEq] at h1 e1
    obtain ⟨rfl, h1⟩ := h1
    obtain ⟨rfl, rfl⟩ := e1
    simp only [List.zip_cons_cons, List.lookup] at h ⊢
    cases q : f == m with
    | true => rw [q] at h; cases h; exact ⟨_, rfl, h2⟩
    | false => rw [q] at h; exact fld_look h1 h3 h
theorem fe_fldE {x : String} {f : Str} {fs : List Str} {W : WX} (L : XLook X.K X.mg x fs) (hx : X.mg (Str.ofString x) = some (.ref C)) (hfs : f ∈ fs) (hz : Zc (.ref C) (some dd) oe) (hf : ∃ vs, oe.data = .fields vs)
    (hN : X.N[i]? = some n) (hv : Vis X.env.scope n) (hd : (n == ("__debug__" : Str)) = false := by decide) (hcd : (n == ("__classdict__" : Str)) = false := by decide)
    (hb : attributeBase (Expr.Name n p2) f X.env (eval (Expr.Name n p2) X.env) = eval (Expr.Name n p2) X.env := by rfl) :
    FE (X.suite a ((a, oe) :: pn)) W (.Attribute (.Name n p2) f pos) (fldE a dd i f) := by
  obtain ⟨C', e1, xf, ec, hno⟩ := L.ex
  rw [hx] at e1; cases e1
  refine ⟨PE.weak (pe_xf xf (hno f hfs) hz hf (pe_var (i := i) hN hv hd hcd) hb) fun σ H Q ⟨F, ad, env, S, re, rs, h⟩ => ?_⟩
  unfold fldE at h
  cases q : env[i]? with
  | none => rw [q] at h; exact h.elim
  | some z =>
    rw [q] at h
    cases z with
    | none => exact h.elim
    | some d =>
      cases d <;> first
        | exact h.elim
        | skip
      rename_i m d0 ns ds
      simp only at h
      by_cases c : m = a ∧ d0 = dd
      · rw [if_pos c] at h
        obtain ⟨rfl, rfl⟩ := c
        cases q2 : (ns.zip ds).lookup f with
        | none => rw [q2] at h; exact h.elim
        | some d =>
          rw [q2] at h
          obtain ⟨v, s1, ev, vs, f1, f2, f3⟩ := re i _ q
          subst ev
          obtain ⟨u, g1, g2⟩ := fld_look f2 f3 q2
          exact ⟨.ref m, s1, rfl, rfl, d0, vs, u, rfl, rs.sub _ _ f1, g1, Fin.pure (X := X.suite m ((m, oe) :: pn)) (d := d) rs h g2⟩
      · rw [if_neg c] at h; exact h.elim
end
end Fx

end
/-! ## Fx16 -/
section
namespace Fx
open PySem PySem.Spec PyProof.Rows L2
variable [tb : Tabl]
/-! ### x(lambda: body), x: try: return ('told', a()) except C as e: suite -/
/-- qf: what the suite makes of the error -/
def heardM (w : Str) (tab : List (String × Bool)) (qf : Ex → M D) (m : M D) : M D := fun S => match m S with
  | .ok d S' => .ok (.tup [.str w, d]) S'
  | .ex e S' => if tab.lookup e.cls = some true then (match qf e S' with
    | .ok d S2 => .ok d S2
    | _ => .no) else .no
  | .no => .no
/-- what is wished of the error -/
def EQ (K : PySem.W.Frag) (mg : Str → Option Value) (tab : List (String × Bool)) (qf : Ex → M D) (Q : VK) : XK := fun cls d H => ∃ F ad S e r S', RS K F ad S H ∧ ER K mg F ad S.length e cls d H ∧ tab.lookup e.cls = some true ∧ qf e S = .ok r S' ∧
  ∀ v F' ad' H', Nx F ad S H F' ad' S' H' → RS K F' ad' S' H' → DP K F' ad' S'.length r v → Q v H'
def THeard (K : PySem.W.Frag) (mg : Str → Option Value) (w : Str) (tab : List (String × Bool)) (qf : Ex → M D) : (XK → Hp → VK → Prop) → Hp → VK → Prop := fun tl H Q => tl (EQ K mg tab qf Q) H fun v H1 => ([.str w, v] : List V).length ≤ sizeLine ∧ ∀ (p : Addr) (o : Obj), H1 p = none → o.dict = none → Q (.ref p) (upd H1 p (.frz o (.tup [.str w, v])))
theorem re_one {K F ad L} {n i : Nat} {d : D} {v : V} {σ : L2.St} (hi : σ[i]? = some (some v)) (hd : DP K F ad L d v) : RE K F ad L ((List.replicate n none).set i (some d)) σ := fun j e h => by
  by_cases c : i = j
  · subst c
    by_cases hl : i < n
    · rw [List.getElem?_set_self (by simpa using hl)] at h; cases h
      exact ⟨v, hi, hd⟩
    · rw [List.getElem?_eq_none (by simpa using hl)] at h; cases h
  · rw [List.getElem?_set_ne c, List.getElem?_replicate] at h
    split at h <;> cases h
theorem rs_ext {K : PySem.W.Frag} {F ad S H H1} (rs : RS K F ad S H) (x : LamX.ExtN H H1) (t : LamX.Tabs tb.T H1) : RS K F ad S H1 :=
  ⟨fun a o e => x a o (rs.sub a o e) fun ps z => rs.ntb a ps (by rw [e, z]), fun n od e => by
    obtain ⟨h1, o, h2, h3⟩ := rs.liv n od e
    exact ⟨h1, o, x _ _ h2 (or_ne h3).1, h3⟩, rs.inj, t, rs.ntb⟩
theorem nx_ext {K : PySem.W.Frag} {F ad S H H1} (x : LamX.ExtN H H1) : Nx F ad S H F ad S H1 :=
  ⟨fun _ _ h => h, fun _ _ h => .inl h, Nat.le_refl _, fun _ _ => rfl, fun n od h => .inl ⟨od, h⟩, fun a o h _ n => x a o h n, fun a h => by
    cases q : H a with
    | none => exact .inl q
    | some o =>
      by_cases c : ∀ ps, o ≠ .tbl ps
      · exact (fr_no (x a o q c) c h).elim
      · simp only [ne_eq, Classical.not_forall, Classical.not_not] at c
        obtain ⟨ps, rfl⟩ := c
        exact .inr ⟨ps, q⟩⟩
section
variable {X : Cx} {W : WX} {x a en cl wd : Str} {st : Stmt} {Ng : List Str} {CL : Addr} {tab : List (String × Bool)} {qf : Ex → M D} {sgf : Addr → Addr → String → Env → MS} {j kt k : Nat} {p1 p2 p3 p4 p5 p6 p7 p8 p lpos pos : Pos} {b₀ : Stmt} {suite : List Stmt}
/-- the suite, in its context -/
def SuiteOk (P : Program) (w : World) (K : PySem.W.Frag) (mg : Str → Option Value) (base : Heap) (x : Str) (sc : Scope) (Ng : List Str) (st : List Stmt) (sgf : Addr → Addr → String → Env → MS) : Prop :=
  ∀ (g : Addr) (cdg : Value) (A : Around) (outer : List PySem.Env) (s : Shared) (H : Hp) (a : Addr) (oe : Obj) (dd C : Addr) (y : String) (pn : List (Addr × Obj)), A.units + 100 < cLine → Zc (.ref C) (some dd) oe → (∃ vs, oe.data = .fields vs) → mg (Str.ofString y) = some (.ref C) →
    FSs ((cxOf C8.CX0 P w K mg base Ng x sc g cdg A outer s H C8.E0).nox.suite a ((a, oe) :: pn)) W0 st (sgf a dd y)
theorem heard_gives {g : Addr} {cdg : Value} {q : Str} (Sg : FnScope Ng [a] (defScope st)) (hN1 : Ng[1]? = some en) (hloc : (defScope st).names.lookup en = some .local) (hgc : (defScope st).names.lookup cl = some .globalImplicit) (hmc : X.mg cl = some (.ref CL)) (hdc : (cl == ("__debug__" : Str)) = false)
    (ht : ∀ p ∈ tab, SubX X.K X.mg p.1 (.ref CL) p.2) (hu : X.A.units + 100 < cLine) (hsu : SuiteOk X.prog X.w X.K X.mg X.base x (defScope st) Ng (b₀ :: suite) sgf) (h0 : ∀ f : Addr, (L2.start Ng [V.ref f])[0]? = some (some (V.ref f)))
    (hq : ∀ a dd e S d S', qf e S = .ok d S' → sgf a dd e.cls ((List.replicate Ng.length none).set 1 (some (.err a dd (e.fs.map (·.1)) (e.fs.map (·.2))))) S = .ok (.rt d) S') :
    LamX.GivesTo X Ng x (defScope st) g cdg [.Try [.Return (some (.Tuple [.Constant (.str wd) j p5, .Call (.Name a p1) [] [] p2] kt p6)) p3] [.ExceptHandler (some (.Name cl p4)) (some en) (b₀ :: suite) p7] [] [] p8] a q (THeard X.K X.mg wd tab qf) := by
  intro f c' s H0 Q tl act hc h
  have hgl : Gl (cxOf C8.CX0 X.prog X.w X.K X.mg X.base Ng x (defScope st) g cdg X.A X.stack s H0 C8.E0).nox cl := hgc
  refine ⟨_, pss_one (ps_try_as (X := (cxOf C8.CX0 X.prog X.w X.K X.mg X.base Ng x (defScope st) g cdg X.A X.stack s H0 C8.E0).nox) (c := .ref CL) (i := 1)
      (tb := fun W D σ H => ∃ Ech : XK, (∀ cls d σ' H', Ech cls d H' → W cls d σ' H') ∧ σ[0]? = some (some (.ref f)) ∧ H c' = some (LamX.CodeO c' q) ∧ tl Ech H fun v H1 => ([.str wd, v] : List V).length ≤ sizeLine ∧ ∀ (p : Addr) (o : Obj), H1 p = none → o.dict = none → D.rt (.ref p) (upd H1 p (.frz o (.tup [.str wd, v]))))
      (ts := fun a cls d D σ H => σ.length = Ng.length → ∃ C dd y, cls = .ref C ∧ d = some dd ∧ X.mg (Str.ofString y) = some (.ref C) ∧ tS (cxOf C8.CX0 X.prog X.w X.K X.mg X.base Ng x (defScope st) g cdg X.A X.stack s H0 C8.E0).nox W0 (sgf a dd y) D σ H)
      rfl rfl Sg.nd hN1 hloc ⟨hgl, hdc, .inl hmc⟩ LamX.takes0 (fun W pn xe tk _ => ?_) (fun a' oe cls d pn hz hf => ?_)), ?_⟩
  · refine ⟨fun pins s' σ H' D I ⟨Ech, hW, e1, e2, e3⟩ => ?_⟩
    have hp := act W pn xe Ech p1 p2 tk hW
    have hq := pss_one (ps_ret (pos := p3) (pe_tupC (x1 := kt) (pos := p6) (pa_cons (pe_str (x := wd) (j := j) (pos := p5)) (pa_cons hp pa_nil))))
    refine hq.run pins s' σ H' D I ?_
    exact ⟨e1, e2, e3⟩
  · refine PSs.weakI ⟨fun pins s' σ H' D I h' => ?_⟩ fun D σ H hl h' => (h' hl)
    obtain ⟨C, dd, y, rfl, rfl, hy, h'⟩ := h'
    exact (hsu g cdg X.A X.stack s H0 a' oe dd C y pn hu hz hf hy).run.run pins s' σ H' D I h'
  · refine ⟨EQ X.K X.mg tab qf Q, fun cls d σ' H' ⟨F, ad, S, e, r, S', rs, er, htt, hqf, hfin⟩ => ⟨true, exm_tab ht er htt, fun _ a' ha' hl => ?_, fun z => nomatch z⟩, h0 f, hc, h⟩
    have er0 := er
    obtain ⟨C, dd, fs, m1, m2, m3, m4, m5, m6⟩ := er
    have hl' : 1 < σ'.length := by rw [List.length_set] at hl; rw [hl]; exact lt_of_some hN1
    have de : DP X.K F ad S.length (.err a' dd (e.fs.map (·.1)) (e.fs.map (·.2))) (.ref a') := ⟨rfl, fs, m4, m5, m6⟩
    refine ⟨C, dd, e.cls, m2, m3, m1, F, ad, _, S, re_one (n := Ng.length) (List.getElem?_set_self hl') de, rs, ?_⟩
    rw [hq a' dd e S r S' hqf]
    exact fun v F' ad' H2 n2 r2 d2 => hfin v F' ad' H2 n2 r2 d2
/-- x(lambda: body) -/
theorem fe_heard {c P : Addr} {params : Arguments} {body : Expr} {scope : Scope} {fb : Env → M D} (T0 : DefAt X.K X.mg x st [a]) (Sg : FnScope Ng [a] (defScope st))
    (hbd : defBody st = [.Try [.Return (some (.Tuple [.Constant (.str wd) j p5, .Call (.Name a p1) [] [] p2] kt p6)) p3] [.ExceptHandler (some (.Name cl p4)) (some en) (b₀ :: suite) p7] [] [] p8])
    (hN0 : Ng[0]? = some a) (hN1 : Ng[1]? = some en) (hloc : (defScope st).names.lookup en = some .local) (hgc : (defScope st).names.lookup cl = some .globalImplicit) (hmc : X.mg cl = some (.ref CL)) (hdc : (cl == ("__debug__" : Str)) = false)
    (ht : ∀ p ∈ tab, SubX X.K X.mg p.1 (.ref CL) p.2) (hsu : SuiteOk X.prog X.w X.K X.mg X.base x (defScope st) Ng (b₀ :: suite) sgf) (h0 : ∀ f : Addr, (L2.start Ng [V.ref f])[0]? = some (some (V.ref f)))
    (hq : ∀ a dd e S d S', qf e S = .ok d S' → sgf a dd e.cls ((List.replicate Ng.length none).set 1 (some (.err a dd (e.fs.map (·.1)) (e.fs.map (·.2))))) S = .ok (.rt d) S')
    (hg : Gl X x) (TB : LamX.TabB X.base X.mg c P) (hcode : X.env.code = .ref c) (hmT : (P, X.env.qual ++ "<lambda>") ∈ tb.T) (hun : ∀ p ∈ tb.T, p.1 = P → p.2 = X.env.qual ++ "<lambda>") (hr : Room (k + 2) X.A) (L : LamX.LamS X.env.scope scope) (hdef : defaultsOf params X.env = ([], []))
    (hbind : ∀ (q : Str) (cl : List (Str × Addr)) (pm cv ctv : Value), bindArgs (PySem.W.kla_fn "<lambda>" q params body scope cl pm cv ctv) ⟨[], []⟩ = pure [])
    (hbody : ∀ (A : Around) (outer : List PySem.Env) (s : Shared) (H : Hp) (E : XK) (f c' : Addr), Room k (A.deeper (LamX.lamEnv X scope s.heap.objs.size f c')) → FE (LamX.lamCx X A outer s H E scope f c') (WE E) body fb)
    (hd : (a == ("__debug__" : Str)) = false := by decide) (hcd : (a == ("__classdict__" : Str)) = false := by decide) (hdb : (x == ("__debug__" : Str)) = false := by decide) :
    FE X W (.Call (.Name x p) [.Lambda params body scope lpos] [] pos) (fun env => heardM wd tab qf (fb env)) := by
  obtain ⟨g, fd, m1, F, B⟩ := T0.ex
  obtain ⟨oc, od, kV, doc, pm, an, cdv, ct, osl, rfl, lk, hcg⟩ := F.ex
  have hG := heard_gives (g := g) (cdg := cdv) (q := X.env.qual ++ "<lambda>") (wd := wd) (qf := qf) (j := j) (kt := kt) (p1 := p1) (p2 := p2) (p3 := p3) (p4 := p4) (p5 := p5) (p6 := p6) (p7 := p7) (p8 := p8) Sg hN1 hloc hgc hmc hdc ht (by have := hr.un; omega) hsu h0 hq
  rw [← hbd] at hG
  have hva : Vis (defScope st) a := vis_par Sg (by simp)
  refine ⟨PE.weak (LamX.pe_lamcall (T := tb.T) (t := fun E => tF X (WE E) fb) hg m1 F.kp lk hcg B Sg hN0 hva hG TB hcode hmT hun hr L hdef hbind (fun A outer s H E f c' hr2 => (hbody A outer s H E f c' hr2).run) hdb hd hcd) fun σ H Q ⟨F, ad, env, S, re, rs, h⟩ => ?_⟩
  refine ⟨rs.tab, fun H1 x1 t1 => ?_⟩
  have rs1 := rs_ext rs x1 t1
  have n1 : Nx F ad S H F ad S H1 := nx_ext (K := X.K) x1
  refine ⟨F, ad, env, S, re, rs1, ?_⟩
  simp only [heardM] at h
  cases q : fb env S with
  | no => rw [q] at h; exact h
  | ok d S' =>
    rw [q] at h
    refine fun v F' ad' H' n2 r2 d2 => ⟨by show 2 ≤ sizeLine; decide, fun t o ht ho => ?_⟩
    exact h (.ref t) (upd F' t (.frz o (.tup [.str wd, v]))) ad' _ ((n1.trans n2).trans (Nx.alloc r2 ht)) (r2.alloc ht) ⟨t, [.str wd, v], rfl, .inl ⟨o, upd_same, ho⟩, .str wd, [v], rfl, rfl, v, [], rfl, DP.mono (Gr.alloc (F_none r2 ht)) d v d2, rfl⟩
  | ex e S' =>
    rw [q] at h
    simp only at h
    refine fun cls dd F' ad' H' n2 r2 er => ?_
    by_cases c : tab.lookup e.cls = some true
    · rw [if_pos c] at h
      cases q2 : qf e S' with
      | no => rw [q2] at h; exact h.elim
      | ex _ _ => rw [q2] at h; exact h.elim
      | ok r S2 =>
        rw [q2] at h
        exact ⟨F', ad', S', e, r, S2, r2, er, c, q2, fun v F2 ad2 H2 n3 r3 d3 => h v F2 ad2 H2 ((n1.trans n2).trans n3) r3 d3⟩
    · rw [if_neg c] at h; exact h.elim
end
end Fx

end
/-! ## Fx17 -/
section
namespace Fx
open PySem PySem.Spec PyProof.Rows L2
open AutoSeq1 (wpAny_loadPart')
variable [tb : Tabl]
/-! ### enumerate(tuple) -/
omit tb in
theorem enumT_new (t : Addr) (its : Array Value) (n : Nat) (dc : Option Addr) (sl : Array (Option Value)) :
    Meets (Builtin.«enumerate.__new__» ⟨[.type "enumerate", .ref t], []⟩) (fun _ R s => s.heap.get? t = some { cls := .type "tuple", dict := dc, data := .seq its n, slots := sl } ∧
      R (.ok (.ret (.ref (s.heap.push { cls := .type "tuple_iterator", data := .fields #[.ref t, .int 0 0] }).objs.size)))
        { s with heap := (s.heap.push { cls := .type "tuple_iterator", data := .fields #[.ref t, .int 0 0] }).push { cls := .type "enumerate", data := .fields #[.none, .bool false, .ref s.heap.objs.size, rawInt 0, .none, .none] } }) :=
  .of_wp fun prog w A R s h => by
    obtain ⟨hp, gs, dr, tk, os⟩ := s
    obtain ⟨ht, q⟩ := h
    have sub := sub_enumerate
    have hT : Heap.IsTuple (Shared.heap ⟨hp, gs, dr, tk, os⟩) t its := ⟨_, ht, rfl, n, rfl⟩
    wp_walk using wpAny_loadPart' ht
    refine wpAny_stack_any fun st => wpAny_pure ?_
    split
    · rename_i c _ _ _ _ _
      cases (c == Value.type "enumerate") <;>
        (wp_walk using wpAny_loadPart' ht, wpAny_pyIter_tuple hT
         exact ⟨_, rfl, q⟩)
    · wp_walk using wpAny_loadPart' ht, wpAny_pyIter_tuple hT
      exact ⟨_, rfl, q⟩
omit tb in
theorem enumT_call {prog : Program} {w : World} {A : Around} {E : Value → Shared → Prop} {s : Shared} {t : Addr} {its : Array Value} {Q : Value → Shared → Prop} (ht : s.heap.IsTuple t its)
    (k : ∀ h', IsEnum h' (s.heap.objs.size + 1) s.heap.objs.size 0 .none → h'.IsTupleIter s.heap.objs.size t 0 → (∀ b o, s.heap.get? b = some o → h'.get? b = some o) → Q (.ref (s.heap.objs.size + 1)) { s with heap := h' }) :
    wpAny (model prog w) A (call (.type "enumerate") [.ref t]) Q E s := by
  obtain ⟨⟨c, dc, dt, sl⟩, e, hc, n, hd⟩ := ht
  dsimp only at hc hd
  subst hc; subst hd
  refine callType_new F.called_enumerate (by decide) (F.typeCall_enumerate_1 _) (F.newCall_enumerate_1 _) (fun obj => F.args_object_init_2 obj _) F.entry_enumerate_new (enumT_new t its n dc sl) ⟨e, ?_⟩
  let o1 : Obj := { cls := .type "tuple_iterator", data := .fields #[.ref t, .int 0 0] }
  let o2 : Obj := { cls := .type "enumerate", data := .fields #[.none, .bool false, .ref s.heap.objs.size, rawInt 0, .none, .none] }
  have z1 : (s.heap.push o1).objs.size = s.heap.objs.size + 1 := Heap.size_push ..
  have e2 : ((s.heap.push o1).push o2).get? (s.heap.push o1).objs.size = some o2 := Heap.get?_push_size (s.heap.push o1) (o := o2) rfl
  show _ ∧ _
  rw [z1] at e2
  rw [show (s.heap.push { cls := .type "tuple_iterator", data := .fields #[.ref t, .int 0 0] }).objs.size = s.heap.objs.size + 1 from z1]
  exact ⟨⟨_, e2, rfl⟩, k _ e2 ⟨o1, Heap.get?_push_of_some o2 (Heap.get?_push_size s.heap (o := o1) rfl), rfl, rfl⟩ fun b o q => Heap.get?_push_of_some o2 (Heap.get?_push_of_some o1 q)⟩
/-- the tuple at a, each item in a new pair -/
def IteT (K : PySem.W.Frag) (a : Addr) : It :=
  ⟨fun i H => ∃ (xs : List V) (x : V), SqT K H a xs ∧ xs[i]? = some x, fun i H v H' => ∃ T x, v = .ref T ∧ H T = none ∧ H' = upd H T (.tup [.int (i : Nat), x]) ∧ ∀ xs, SqT K H a xs → xs[i]? = some x, fun i H => ∃ xs : List V, SqT K H a xs ∧ xs.length ≤ i⟩
omit tb in
theorem enumT_turn {P : Program} {w : World} {K : PySem.W.Frag} {elts : List Expr} {kk : Nat} {tpos : Pos} (a e it : Addr) (hne : e ≠ it) :
    Turn P w K (.Tuple elts kk tpos) (IteT K a) [e, it] e (fun i h => (∃ old, IsEnum h e it ((i : Nat) : Int) old) ∧ h.IsTupleIter it a i) := by
  constructor
  · simp
  · rintro i h ⟨⟨old, he⟩, o, ho, hc, hd⟩ b hb
    have : b = e ∨ b = it := by simpa using hb
    rcases this with rfl | rfl
    · exact ⟨_, he, fun v q => nomatch q⟩
    · exact ⟨o, ho, fun v q => by rw [hd] at q; cases q⟩
  · rintro i h h' ⟨⟨old, he⟩, hi⟩ k
    exact ⟨⟨old, k e (by simp) _ he⟩, hi.at fun o q => k it (by simp) o q⟩
  · rintro X rfl rfl rfl hc i pins s σ H E I hf ⟨⟨old, he⟩, hi⟩ ⟨xs, x, hq, hx⟩
    obtain ⟨its, rv, p, hz⟩ := I.tuple hq
    obtain ⟨u, hu, ru⟩ := rv.get hx
    have le : e < s.heap.objs.size := Heap.lt_size he
    have li : it < s.heap.objs.size := by obtain ⟨_, q, _⟩ := hi; exact Heap.lt_size q
    by_cases ea : e = a
    · subst ea
      obtain ⟨o, q1, q2, _⟩ := p
      rw [he] at q1; cases q1
      exact absurd (Value.type.inj q2) (by decide)
    by_cases ia : a = it
    · subst ia
      obtain ⟨o, q1, q2, _⟩ := p
      obtain ⟨o', q3, q4, _⟩ := hi
      rw [q1] at q3; cases q3
      rw [q2] at q4
      exact absurd (Value.type.inj q4) (by decide)
    have hl : i < its.toArray.size := by have := (List.getElem?_eq_some_iff.mp hu).1; simpa using this
    refine wpAny_pyNext_enum_itemD (Draws.tuple (A := X.A.in1) (I.ok.hd hc) it a ia its.toArray) he ⟨hi, p⟩ hl hne (by simp [ea, hne]) fun y h1 tk hy out st hT hsz kp => ?_
    have ey : y = u := by rw [List.getElem?_toArray, hu] at hy; exact (Option.some.inj hy).symm
    subst ey
    refine ⟨_, rfl, wpAny_letOwnedTupleGo_enum (s := { s with heap := h1, toks := tk + 1 }) out fun h2 he2 sb => ?_⟩
    have t2 : h2.get? s.heap.objs.size = some { cls := .type "tuple", data := .seq #[.int i tk, y] } := (sb.2 _ (Nat.ne_of_gt le)).trans hT
    have ok : ObjOk X.prog X.w (upd H s.heap.objs.size (.tup [.int (i : Nat), x])) h2 s.heap.objs.size (.tup [.int (i : Nat), x]) :=
      ⟨by show 2 ≤ sizeLine; decide, [.int i tk, y], .cons ⟨_, rfl⟩ (.cons ru .nil), _, t2, rfl, _, rfl⟩
    have keep : ∀ b ob, b ∉ [e, it] → s.heap.get? b = some ob → h2.get? b = some ob := fun b ob nb q => by
      have n1 : b ≠ e := fun z => nb (by simp [z])
      have n2 : b ≠ it := fun z => nb (by simp [z])
      exact (sb.2 b n1).trans (kp b ob n1 n2 q)
    refine ⟨.ref s.heap.objs.size, _, I.turnedNew (ch := [e, it]) keep hf (Nat.le_refl _) ok, rfl, ⟨_, x, rfl, I.hok.fresh (Nat.le_refl _), rfl, fun ys hy => by rw [I.tuple_inj hy hq]; exact hx⟩, ⟨⟨y, ?_⟩, st.1.at fun o q => (sb.2 it (Ne.symm hne)).trans q⟩, fun b hb => ?_⟩
    · have : ((i + 1 : Nat) : Int) = (i : Int) + 1 := by omega
      rw [this]; exact he2
    · have hb' : b ≠ s.heap.objs.size := by
        have : b = e ∨ b = it := by simpa using hb
        rcases this with z | z
        · rw [z]; exact Nat.ne_of_lt le
        · rw [z]; exact Nat.ne_of_lt li
      rw [upd_ne hb']
      exact (hf b hb).1
  · rintro X rfl rfl rfl hc i pins s σ H E I hf ⟨⟨old, he⟩, hi⟩ ⟨xs, hq, hx⟩
    obtain ⟨its, rv, p, hz⟩ := I.tuple hq
    by_cases ia : a = it
    · subst ia
      obtain ⟨o, q1, q2, _⟩ := p
      obtain ⟨o', q3, q4, _⟩ := hi
      rw [q1] at q3; cases q3
      rw [q2] at q4
      exact absurd (Value.type.inj q4) (by decide)
    obtain ⟨f0, f1, f2, f3, f4, f5⟩ := hf it (by simp)
    have hl := rv.length
    have D : Draws X.prog X.w X.A.in1 it [it, a] i (fun _ _ => True) (fun j h => j = i ∧ h.IsTupleIter it a i ∧ h.IsTuple a its.toArray) := by
      constructor
      · rintro j h ⟨_, ⟨o, ho, _⟩, _⟩
        exact ⟨o, ho⟩
      · rintro j h h' ⟨z, st, sq⟩ k
        exact ⟨z, st.at fun o q => k it (by simp) o q, sq.at fun o q => k a (by simp) o q⟩
      · rintro j s' Q' E' hj ⟨z, _⟩
        omega
      · rintro s' Q' E' ⟨_, st, sq⟩ k
        exact wpAny_nextOf_tuple_end (I.ok.hd hc) st sq (by simp; omega) k
    exact wpAny_pyNext_enum_endD D he ⟨rfl, hi, p⟩ fun h' eb => ⟨rfl, I.turned (t' := s.toks) (fun b o hb q => eb b o hb q) f0 f1 f3 f4 f5⟩
  · rintro A i s Q E ⟨⟨old, he⟩, _⟩ h
    exact wpAny_pyIter_enum he h
/-! ### for i, x in enumerate(a tuple, a list) -/
def enuP (i : Nat) : List D → List D
  | [] => []
  | d :: ds => .utp [.int i, d] :: enuP (i + 1) ds
theorem enuP_get : ∀ {ds : List D} {k i : Nat}, (enuP k ds)[i]? = (ds[i]?).map fun d => .utp [.int ((k + i : Nat) : Int), d]
  | [], k, i => by simp [enuP]
  | d :: ds, k, 0 => by simp [enuP]
  | d :: ds, k, i + 1 => by
    simp only [enuP, List.getElem?_cons_succ]
    rw [enuP_get (ds := ds) (k := k + 1) (i := i)]
    have : k + 1 + i = k + (i + 1) := by omega
    rw [this]
theorem enuP_len : ∀ {ds : List D} {k : Nat}, (enuP k ds).length = ds.length
  | [], _ => rfl
  | d :: ds, k => by simp [enuP, enuP_len (ds := ds)]
def enuM : List D → M (List D)
  | [.lst xs] => pur (enuP 0 xs)
  | [.tup xs] => pur (enuP 0 xs)
  | _ => mno
def itEn (t : Env → M (List D)) : Env → M (List D) := fun env => bd (t env) enuM
section
variable {X : Cx} {W : WX}
theorem enu_new {F ad S H} {i : Nat} {y : D} {w : V} {T : Addr} (rs : RS X.K F ad S H) (hT : H T = none) (d2 : DP X.K F ad S.length y w) :
    ∃ F2 ad2, Nx F ad S H F2 ad2 S (upd H T (.tup [.int (i : Nat), w])) ∧ RS X.K F2 ad2 S (upd H T (.tup [.int (i : Nat), w])) ∧ DP X.K F2 ad2 S.length (.utp [.int (i : Nat), y]) (.ref T) :=
  ⟨upd F T (.tup [.int (i : Nat), w]), ad, Nx.alloc rs hT, rs.alloc hT, T, [.int (i : Nat), w], rfl, .inl (.inl upd_same), .int (i : Nat), [w], rfl, rfl, w, [], rfl, DP.mono (Gr.alloc (F_none rs hT)) y w d2, rfl⟩
theorem itOk_enuL {F ad L} {ds : List D} {a : Addr} {vs : List V} (q : SqL X.K F a vs) (dp : DPs X.K F ad L ds vs) : ItOk X F ad L (enuP 0 ds) (Ite X.K a) := fun F' ad' S' H' g rs i => by
  have q' : SqL X.K H' a vs := sqL_mono rs.sub (sqL_mono g.f q)
  have dp' := DPs.mono g ds vs dp
  refine ⟨fun d e => ?_, fun hi => ⟨vs, q', by rw [enuP_len] at hi; rw [← dp.length]; exact hi⟩⟩
  rw [enuP_get] at e
  obtain ⟨y, e1, rfl⟩ := Option.map_eq_some_iff.mp e
  obtain ⟨v, f1, f2⟩ := dp'.at e1
  refine ⟨⟨vs, v, q', f1⟩, fun x H'' ⟨T, u, ex, hT, eH, k⟩ => ?_⟩
  have z := k vs q'
  rw [f1] at z; cases z
  subst ex eH
  rw [Nat.zero_add]
  exact enu_new rs hT f2
theorem itOk_enuT {F ad L} {ds : List D} {a : Addr} {vs : List V} (q : SqT X.K F a vs) (dp : DPs X.K F ad L ds vs) : ItOk X F ad L (enuP 0 ds) (IteT X.K a) := fun F' ad' S' H' g rs i => by
  have q' : SqT X.K H' a vs := sqT_mono rs.sub (sqT_mono g.f q)
  have dp' := DPs.mono g ds vs dp
  refine ⟨fun d e => ?_, fun hi => ⟨vs, q', by rw [enuP_len] at hi; rw [← dp.length]; exact hi⟩⟩
  rw [enuP_get] at e
  obtain ⟨y, e1, rfl⟩ := Option.map_eq_some_iff.mp e
  obtain ⟨v, f1, f2⟩ := dp'.at e1
  refine ⟨⟨vs, v, q', f1⟩, fun x H'' ⟨T, u, ex, hT, eH, k⟩ => ?_⟩
  have z := k vs q'
  rw [f1] at z; cases z
  subst ex eH
  rw [Nat.zero_add]
  exact enu_new rs hT f2
def iEnuT (K : PySem.W.Frag) (ta : TA) : TI := fun σ H R => ta σ H fun vs H1 => ∃ a xs, vs = [.ref a] ∧ SqT K H1 a xs ∧ R (IteT K a) H1
omit tb in
theorem pi_enuT {e : Expr} {ta : TA} {p pos tpos : Pos} {elts : List Expr} {kk : Nat} (hg : Gl X "enumerate") (hm : X.mg "enumerate" = none) (ha : PA X [e] ta) (hs : starEach [e] X.env = [(false, eval e X.env)] := by rfl) :
    PI X (.Tuple elts kk tpos) (.Call (.Name "enumerate" p) [e] [] pos) (iEnuT X.K ta) := by
  refine ⟨fun pins s σ H R I h => ?_⟩
  have h : ta σ H fun vs H1 => ∃ a xs, vs = [.ref a] ∧ SqT X.K H1 a xs ∧ R (IteT X.K a) H1 := h
  refine Call_ (ld_blt I hg hm boot_enumerate (PyProof.Rows.callWith_type1 (thn (ha.run pos pins s σ H _ I h) fun us s1 z => ?_) hs rfl))
  obtain ⟨vs, H1, I1, r1, a, xs, ex, hq, q⟩ := z
  subst ex
  match us, r1 with
  | [_], .cons r .nil =>
    cases r
    obtain ⟨its, rv, p', hz⟩ := I1.tuple hq
    refine enumT_call p' fun h' he hi k => wpAny_pyIter_enum he ?_
    have fresh : ∀ b ∈ [s1.heap.objs.size + 1, s1.heap.objs.size], FpOk X pins H1 b := fun b hb => by
      have le : s1.heap.objs.size ≤ b := by
        have : b = s1.heap.objs.size + 1 ∨ b = s1.heap.objs.size := by simpa using hb
        rcases this with z | z
        · rw [z]; exact Nat.le_succ _
        · rw [z]; exact Nat.le_refl _
      exact I1.fpOk le (I1.hok.fresh le)
    have I2 : Inv X pins σ H1 { s1 with heap := h' } := I1.kept (t' := s1.toks) k
    exact ⟨s1.heap.objs.size + 1, [s1.heap.objs.size + 1, s1.heap.objs.size], _, _, H1, rfl, I2, enumT_turn a (s1.heap.objs.size + 1) s1.heap.objs.size (Nat.succ_ne_self _), ⟨⟨.none, he⟩, hi⟩, fresh, q⟩
theorem fi_enu {e : Expr} {t : Env → M (List D)} {p pos tpos : Pos} {elts : List Expr} {kk : Nat} (hg : Gl X "enumerate") (hm : X.mg "enumerate" = none) (ha : FA X W [e] t) (hs : starEach [e] X.env = [(false, eval e X.env)] := by rfl) :
    FI X W (.Tuple elts kk tpos) (.Call (.Name "enumerate" p) [e] [] pos) (itEn t) := by
  refine ⟨_, PI.or (pi_enum hg hm ha.run hs) (pi_enuT hg hm ha.run hs), fun σ H R F ad env S re rs h => ?_⟩
  simp only [itEn, bd] at h
  cases q : t env S with
  | no => rw [q] at h; exact h.elim
  | ex x S1 => rw [q] at h; exact .inl ⟨F, ad, env, S, re, rs, by rw [q]; exact h⟩
  | ok ds S1 =>
    rw [q] at h
    match ds, q, h with
    | [.lst xs], q, h =>
      refine .inl ⟨F, ad, env, S, re, rs, ?_⟩
      rw [q]
      rintro v F1 ad1 H1 n1 r1 ⟨u, r, rfl, ⟨a, vs, rfl, h1, h2⟩, e2⟩
      cases e2
      exact ⟨a, vs, rfl, SqL.of (r1.sub _ _ h1), h _ F1 ad1 H1 n1 r1 (itOk_enuL (SqL.of h1) h2)⟩
    | [.tup xs], q, h =>
      refine .inr ⟨F, ad, env, S, re, rs, ?_⟩
      rw [q]
      rintro v F1 ad1 H1 n1 r1 ⟨u, r, rfl, ⟨a, vs, rfl, h1, h2⟩, e2⟩
      cases e2
      exact ⟨a, vs, rfl, sqT_mono r1.sub h1.sq, h _ F1 ad1 H1 n1 r1 (itOk_enuT h1.sq h2)⟩
    | [], _, h => exact h.elim
    | [.non], _, h => exact h.elim
    | [.bl _], _, h => exact h.elim
    | [.int _], _, h => exact h.elim
    | [.str _], _, h => exact h.elim
    | [.obj _], _, h => exact h.elim
    | [.scr _], _, h => exact h.elim
    | [.err ..], _, h => exact h.elim
    | [.utp ..], _, h => exact h.elim
    | d1 :: _ :: _, _, h => cases d1 <;> exact h.elim
end
end Fx

end
/-! ## Fx18 -/
section
namespace Fx
open PySem PySem.Spec PyProof.Rows L2
variable [tb : Tabl]
/-! ### {k: v for target in iter if ..} -/
def compD (t : D → Env → Option Env) (c : Env → M Bool) (kx vx : Env → M D) (env0 : Env) : List D → List (Key × D) → M D
  | [], acc => mkO (.dct acc)
  | d :: ds, acc => match t d env0 with
    | none => mno
    | some env1 => bdN (c env1) fun b => if b = true then bdN (kx env1) fun y => bdN (vx env1) fun z => bdN (opt (keyOf y)) fun k => if acc.length < sizeLine then compD t c kx vx env0 ds (putD acc k z) else mno else compD t c kx vx env0 ds acc
def cmd (vs : List Nat) (m : Env → M (List D)) (t : D → Env → Option Env) (c : Env → M Bool) (kx vx : Env → M D) : Env → M D := fun env => bd (m env) fun ds => compD t c kx vx (wipeE env vs) ds []
section
variable {X : Cx} {W : WX} {pos : Pos}
theorem dc_pre {tg iter : Expr} {scope : Scope} {own : List (Str × Nat)} {it : Env → M (List D)} {ws : List Nat} {t : D → Env → Option Env} {c : Env → M Bool} {kx vx : Env → M D} {wi : TI}
    (hws : ∀ j ∈ ws, j ∈ own.map (·.2))
    (hwi : ∀ σ H (R : It → Hp → Prop) F ad env S, RE X.K F ad S.length env σ → RS X.K F ad S H → Fin X W (ItOk X) σ F ad S H (it env S) R → wi σ H R)
    {σ : L2.St} {F ad env S H} {Q : VK} (hl : σ.length = X.N.length) (re : RE X.K F ad S.length env σ) (rs : RS X.K F ad S H)
    (h : Fin X W (DP X.K) σ F ad S H (cmd (own.map (·.2)) it t c kx vx env S) Q) : tDc wi (gF X.K X.N.length ws t) (tB X W0 c) (tF X W0 kx) (tF X W0 vx) (own.map (·.2)) σ H Q := by
  refine hwi σ H _ F ad env S re rs (Fin.seq re h fun F1 ad1 S1 ds J H1 n1 re1 rs1 it1 h1 => fun Da hDa => ?_)
  have nl1 : ¬ Live S1 ad1 Da := fun ⟨n, od, e, z⟩ => by
    obtain ⟨_, u, h2, _⟩ := rs1.liv n od e
    rw [z, hDa] at h2; cases h2
  let Nt : Nat → Hp → Prop := fun i H' => i ≤ ds.length ∧ ∃ F' ad' S' acc vs, Nx F1 ad1 S1 H1 F' ad' S' H' ∧ RS X.K F' ad' S' H' ∧ H' Da = some (.dK vs) ∧ DPk X.K F' ad' S'.length acc vs ∧ F' Da = none ∧ ¬ Live S' ad' Da ∧
    Fin X W (DP X.K) σ F1 ad1 S1 H1 (compD t c kx vx (wipeE env (own.map (·.2))) (ds.drop i) acc S') Q
  refine ⟨fun i k H' => k = ds.length - i ∧ Nt i H', ⟨ds.length, by simp, Nat.zero_le _, F1, ad1, S1, [], [], .priv .refl hDa, rs1.priv (F_none rs1 hDa) nl1 (none_ne hDa), upd_same, rfl, F_none rs1 hDa, nl1, by simpa using h1⟩, ?_⟩
  rintro i k H' ⟨rfl, hi, F', ad', S', acc, vs, n', rs', hH, dacc, hF, nl, h'⟩
  obtain ⟨itg, its⟩ := it1 F' ad' S' H' n'.gr rs' i
  by_cases hlt : i < ds.length
  · obtain ⟨jg, jy⟩ := itg ds[i] (by simp [hlt])
    rw [show ds.drop i = ds[i] :: ds.drop (i + 1) by rw [List.drop_eq_getElem_cons hlt]] at h'
    refine .inr ⟨jg, Nt (i + 1), fun H2 q => ⟨ds.length - (i + 1), by omega, rfl, q⟩, fun x H'' y => ?_⟩
    obtain ⟨Fy, ady, ny, rsy, dx⟩ := jy x H'' y
    obtain ⟨kk1, kk2, kk3⟩ := ny.still hH hF nl dk_ne.1
    have hH := kk1
    have hF := kk2
    have nl := kk3
    have n' := n'.trans ny
    have dacc := DPk.mono ny.gr _ _ dacc
    unfold compD at h'
    cases e1 : t ds[i] (wipeE env (own.map (·.2))) with
    | none => simp only [e1] at h'; exact h'.elim
    | some env1 =>
      simp only [e1] at h'
      refine ⟨Fy, ady, S', _, ds[i], env1, rsy, dx, (re1.mono n'.gr).wipe _, by rw [wipe_length]; exact hl, e1, fun σ2 re2 b2 => ⟨wipe_but b2 hws, ?_⟩⟩
      refine ⟨Fy, ady, env1, S', re2, rsy, Fin.bdN rfl h' fun F2 ad2 S2 b b' H2 n2 rs2 eb h2 => ?_⟩
      subst eb
      obtain ⟨k1, k2, k3⟩ := n2.still hH hF nl dk_ne.1
      cases b with
      | false => exact iteF ⟨hlt, F2, ad2, S2, acc, vs, n'.trans n2, rs2, k1, DPk.mono n2.gr _ _ dacc, k2, k3, by simpa using h2⟩
      | true =>
        refine iteT ⟨F2, ad2, env1, S2, re2.mono n2.gr, rs2, Fin.bdN rfl (show Fin X W (DP X.K) σ F1 ad1 S1 H1 (Fx.bdN (kx env1) _ S2) Q by simpa using h2) fun F3 ad3 S3 yd yv H3 n3 rs3 dp3 h3 => ?_⟩
        obtain ⟨l1, l2, l3⟩ := n3.still k1 k2 k3 dk_ne.1
        refine ⟨F3, ad3, env1, S3, (re2.mono n2.gr).mono n3.gr, rs3, Fin.bdN rfl h3 fun F4 ad4 S4 zd zv H4 n4 rs4 dp4 h4 => ?_⟩
        obtain ⟨m1, m2, m3⟩ := n4.still l1 l2 l3 dk_ne.1
        cases ek : keyOf yd with
        | none => rw [ek] at h4; exact h4.elim
        | some k =>
          rw [ek] at h4
          have h4 : Fin X W (DP X.K) σ F1 ad1 S1 H1 ((if acc.length < sizeLine then compD t c kx vx (wipeE env (own.map (·.2))) (ds.drop (i + 1)) (putD acc k zd) else mno) S4) Q := h4
          split at h4
          case isFalse => exact h4.elim
          rename_i c3
          have ev : yv = kV k := keyOf_V dp3 ek
          subst ev
          have dk4 := DPk.mono (n2.trans (n3.trans n4)).gr _ _ dacc
          refine ⟨vs, k, rfl, m1, by rw [← dacc.length]; exact c3, hlt, F4, ad4, S4, putD acc k zd, putK vs k zv, .priv (n'.trans (n2.trans (n3.trans n4))) hDa, rs4.priv m2 m3 (some_nk m1), upd_same, dk4.put dp4, m2, m3, h4⟩
  · have e : i = ds.length := by omega
    subst e
    rw [List.drop_length] at h'
    refine .inl ⟨its (Nat.le_refl _), ?_⟩
    exact h' (.ref Da) F' _ H' (n'.enrol hDa) (rs'.enrol hH hF nl ⟨vs, rfl, dacc⟩) ⟨by simp, by rw [adn_same]⟩
theorem fe_dc {kex vex tg iter : Expr} {ifs : List Expr} {scope : Scope} {own : List (Str × Nat)} {it : Env → M (List D)} {ws : List Nat} {t : D → Env → Option Env} {c : Env → M Bool} {kx vx : Env → M D}
    (hc : X.calm = true) (hN : X.N.Nodup) (hi : FI X W tg iter it) (ok : BlkOk X.N X.env.scope scope own) (hws : ∀ j ∈ ws, j ∈ own.map (·.2))
    (hg : ∀ (s : Shared) (H : Hp) (C : Addr) (cl : List (Str × Addr)) (fp : List Addr), FG (X.blk s H scope (compEnvC scope cl C X.env) fp) tg ws t)
    (ht : ∀ (s : Shared) (H : Hp) (C : Addr) (cl : List (Str × Addr)) (fp : List Addr), PTs (X.blk s H scope (compEnvC scope cl C X.env) fp) ifs (tB X W0 c))
    (hk : ∀ (s : Shared) (H : Hp) (C : Addr) (cl : List (Str × Addr)) (fp : List Addr), FE (X.blk s H scope (compEnvC scope cl C X.env) fp) W0 kex kx)
    (he : ∀ (s : Shared) (H : Hp) (C : Addr) (cl : List (Str × Addr)) (fp : List Addr), FE (X.blk s H scope (compEnvC scope cl C X.env) fp) W0 vex vx)
    (hs : ∀ x, foldedSetIterable iter X.env x = pure x := by intro _; rfl) :
    FE X W (.DictComp kex vex [⟨tg, iter, ifs, 0⟩] scope pos) (cmd (own.map (·.2)) it t c kx vx) := by
  obtain ⟨wi, pi, hwi⟩ := hi
  refine ⟨PE.weakI (pe_dc (own := own) (g := gF X.K X.N.length ws t) (tt := tB X W0 c) (tk := tF X W0 kx) (tv := tF X W0 vx) hc hN pi ok (fun s H C cl fp => (hg s H C cl fp).pg) ht (fun s H C cl fp => (hk s H C cl fp).run) (fun s H C cl fp => (he s H C cl fp).run) hs) fun σ H Q hl ⟨F, ad, env, S, re, rs, h⟩ => ?_⟩
  exact dc_pre (scope := scope) (tg := tg) (iter := iter) hws hwi hl re rs h
/-- y = {..} on one line, y a local -/
theorem sw_trueD {kx vx : Expr} {gs : List Comprehension} {scope : Scope} {pos py : Pos} {y : Str} {l : Nat} {env : PySem.Env} (hk : env.scope.kind = .function) (hy : env.scope.names.lookup y = some .local) (hl : (py.line == pos.line) = true)
    (ha : (scope.names.any fun (n, k) => n == y && (k == .local || k == .cell)) = false) : swapsWith (.DictComp kx vx gs scope pos) (some (.Name y py)) l env = pure true := by
  have ky : env.kindOf y = some .local := hy
  have hb : env.blockKind = .function := by unfold PySem.Env.blockKind; rw [hk]; rfl
  unfold swapsWith
  simp only [hb, ky, ha, Expr.pos, hl]
  rfl
theorem ps_setDc {i : Nat} {y : Str} {py : Pos} {kx vx tg iter : Expr} {ifs : List Expr} {scope : Scope} {own : List (Str × Nat)} {pos spos : Pos} {wi : TI} {g : TG} {tt : TT} {tk tv : TE} (hc : X.calm = true) (hN : X.N.Nodup) (hy : X.N[i]? = some y) (hyl : X.env.scope.names.lookup y = some .local)
    (hsw : swapsWith (.DictComp kx vx [⟨tg, iter, ifs, 0⟩] scope pos) (some (.Name y py)) spos.line X.env = pure true) (hi : PI X tg iter wi) (ok : BlkOk X.N X.env.scope scope own)
    (hg : ∀ (s : Shared) (H : Hp) (C : Addr) (cl : List (Str × Addr)) (fp : List Addr), PG (X.blk s H scope (compEnvC scope cl C X.env) fp) tg g) (ht : ∀ (s : Shared) (H : Hp) (C : Addr) (cl : List (Str × Addr)) (fp : List Addr), PTs (X.blk s H scope (compEnvC scope cl C X.env) fp) ifs tt)
    (hk : ∀ (s : Shared) (H : Hp) (C : Addr) (cl : List (Str × Addr)) (fp : List Addr), PE (X.blk s H scope (compEnvC scope cl C X.env) fp) kx tk)
    (he : ∀ (s : Shared) (H : Hp) (C : Addr) (cl : List (Str × Addr)) (fp : List Addr), PE (X.blk s H scope (compEnvC scope cl C X.env) fp) vx tv) (hs : ∀ x, foldedSetIterable iter X.env x = pure x := by intro _; rfl) :
    PS X (.Assign [.Name y py] (.DictComp kx vx [⟨tg, iter, ifs, 0⟩] scope pos) spos) (tAsg (tDc wi g tt tk tv (own.map (·.2))) (gName i)) := by
  refine ⟨fun pins s σ H D I h => ?_⟩
  rw [exec_Assign_Name_used _ _ _ _ hsw]
  refine wpAny_bind (wpAny_standAt (wpAny_bind ?_))
  show wpAny _ X.A (do let _ ← comprehension (.DictComp kx vx [⟨tg, iter, ifs, 0⟩] scope pos) scope X.env (firstIterPos [⟨tg, iter, ifs, 0⟩] pos) newDict false (eval iter X.env) (some (assign (.Name y py) X.env))) _ _ s
  have h : tDc wi g tt tk tv (own.map (·.2)) σ H (fun x H1 => gName i x σ H1 D.nx) := h
  refine wpAny_bind (thn (dc_core (Qf := fun _ s' => SP X pins D .next s') hc hN I hi ok hg ht hk he hs h fun L C s' m H' I' q hn f => ?_) fun _ s' hq => wpAny_pure (wpAny_pure hq))
  show wpAny _ _ (assign (.Name y py) X.env (.ref L)) _ _ _
  refine wpAny_assign_Name (store_ok2 (v := V.ref L) I' hN hy (.inl hyl) rfl (fun s2 I2 ⟨a, sb, ha⟩ => ?_) (.inr hyl))
  obtain ⟨f0, f1, f2, f3, f4, f5⟩ := f
  have haC : C ≠ a := by
    rcases ha with z | z
    · rw [z]; exact f1
    · exact fun e => f4 y a z e.symm
  refine ⟨m, hn.sameBut sb haC, fun h3 sb3 => ?_⟩
  exact ⟨_, H', I2.turned (t' := s2.toks) (fun b o hb e => (sb3.2 b hb).trans e) f0 f1 f3 f4 f5, q⟩
theorem fs_setDc {i : Nat} {y : Str} {py spos : Pos} {kex vex tg iter : Expr} {ifs : List Expr} {scope : Scope} {own : List (Str × Nat)} {it : Env → M (List D)} {ws : List Nat} {t : D → Env → Option Env} {c : Env → M Bool} {kx vx : Env → M D}
    (hy : X.N[i]? = some y) (hyl : X.env.scope.names.lookup y = some .local)
    (hkd : X.env.scope.kind = .function) (hln : (py.line == pos.line) = true) (ha : (scope.names.any fun (n, k) => n == y && (k == .local || k == .cell)) = false)
    (hc : X.calm = true) (hN : X.N.Nodup) (hi : FI X W tg iter it) (ok : BlkOk X.N X.env.scope scope own) (hws : ∀ j ∈ ws, j ∈ own.map (·.2))
    (hg : ∀ (s : Shared) (H : Hp) (C : Addr) (cl : List (Str × Addr)) (fp : List Addr), FG (X.blk s H scope (compEnvC scope cl C X.env) fp) tg ws t)
    (ht : ∀ (s : Shared) (H : Hp) (C : Addr) (cl : List (Str × Addr)) (fp : List Addr), PTs (X.blk s H scope (compEnvC scope cl C X.env) fp) ifs (tB X W0 c))
    (hk : ∀ (s : Shared) (H : Hp) (C : Addr) (cl : List (Str × Addr)) (fp : List Addr), FE (X.blk s H scope (compEnvC scope cl C X.env) fp) W0 kex kx)
    (he : ∀ (s : Shared) (H : Hp) (C : Addr) (cl : List (Str × Addr)) (fp : List Addr), FE (X.blk s H scope (compEnvC scope cl C X.env) fp) W0 vex vx)
    (hs : ∀ x, foldedSetIterable iter X.env x = pure x := by intro _; rfl) :
    FS X W (.Assign [.Name y py] (.DictComp kex vex [⟨tg, iter, ifs, 0⟩] scope pos) spos) (set i (cmd (own.map (·.2)) it t c kx vx)) := by
  obtain ⟨wi, pi, hwi⟩ := hi
  refine ⟨PS.weakI (ps_setDc (own := own) (g := gF X.K X.N.length ws t) (tt := tB X W0 c) (tk := tF X W0 kx) (tv := tF X W0 vx) hc hN hy hyl (sw_trueD hkd hyl hln ha) pi ok (fun s H C cl fp => (hg s H C cl fp).pg) ht (fun s H C cl fp => (hk s H C cl fp).run) (fun s H C cl fp => (he s H C cl fp).run) hs) fun D σ H hl ⟨F, ad, env, S, re, rs, h⟩ => ?_⟩
  have hil : i < σ.length := by rw [hl]; exact lt_of_some hy
  exact dc_pre (scope := scope) (tg := tg) (iter := iter) hws hwi hl re rs (FinS.seqE re hl h fun F1 ad1 S1 d v H1 n1 re1 rs1 dp1 h1 => h1 _ F1 ad1 H1 .refl rs1 (re1.set dp1 hil) (by rw [List.length_set]; exact hl))
/-! ### k in a dict of the store -/
def dinD (neg : Bool) (x y : D) : M D := bd (objK y) fun c => bd (opt (keyOf x)) fun k => pur (.bl (if neg = true then !(valD c.2 k).isSome else (valD c.2 k).isSome))
theorem op_din (hu : X.A.units + 1 < cLine) : OpR X (compareOp .In) (fun x y H Q => ∃ a o, y = .ref a ∧ DGet H a x o ∧ Q (.bl o.isSome) H) := fun pins s σ H x y v u Q I rx ry ⟨a, o, e, g, q⟩ => by
  subst e
  obtain rfl : u = Value.ref a := ry
  exact d_in hu I g rx fun s3 I3 => ⟨.bl o.isSome, H, I3, rfl, q⟩
theorem op_dnotin (hu : X.A.units + 1 < cLine) : OpR X (compareOp .NotIn) (fun x y H Q => ∃ a o, y = .ref a ∧ DGet H a x o ∧ Q (.bl (!o.isSome)) H) := fun pins s σ H x y v u Q I rx ry ⟨a, o, e, g, q⟩ => by
  subst e
  obtain rfl : u = Value.ref a := ry
  exact d_notIn hu I g rx fun s3 I3 => ⟨.bl (!o.isSome), H, I3, rfl, q⟩
theorem din_at {W : WX} {σ : L2.St} {F ad S H} {x y : D} {v w : V} {Q : VK} {neg : Bool} (rs : RS X.K F ad S H) (dx : DP X.K F ad S.length x v) (dy : DP X.K F ad S.length y w) (h : Fin X W (DP X.K) σ F ad S H (dinD neg x y S) Q) :
    ∃ a o, w = .ref a ∧ DGet H a v o ∧ Q (.bl (if neg = true then !o.isSome else o.isSome)) H := by
  obtain ⟨c, S3, e3, h⟩ := Fin.look h fun _ _ => objK_ex
  obtain ⟨rfl, q, vs, rfl, hH, dk⟩ := objK_at rs dy e3
  obtain ⟨k, S4, e4, h⟩ := Fin.look h fun _ _ => opt_ex
  obtain ⟨rfl, e5⟩ := opt_ok e4
  have ew := keyOf_V dx e5
  subst ew
  refine ⟨_, valV vs k, rfl, DGet.k hH, Fin.pure rs h ?_⟩
  rcases dk.val (k := k) with ⟨z1, z2⟩ | ⟨d, u, e6, e7, d7⟩
  · rw [z1, z2]; rfl
  · rw [e6, e7]; rfl
theorem of_din (hu : X.A.units + 1 < cLine) : OpF X (compareOp .In) (dinD false) :=
  ⟨_, op_din hu, fun W σ F ad S H x y v w Q rs dx dy h => din_at (neg := false) rs dx dy h⟩
theorem of_dnotin (hu : X.A.units + 1 < cLine) : OpF X (compareOp .NotIn) (dinD true) :=
  ⟨_, op_dnotin hu, fun W σ F ad S H x y v w Q rs dx dy h => din_at (neg := true) rs dx dy h⟩
theorem fss_no {sts : List Stmt} : FSs X W sts (fun _ _ => .no) := ⟨⟨fun pins s σ H D I ⟨F, ad, env, S, re, rs, h⟩ => h.elim⟩⟩
end
theorem ite_ap0 {α β : Type} {c : Prop} [Decidable c] (f g : α → β) (x : α) : (if c then f else g) x = if c then f x else g x := by split <;> rfl
theorem sL1 : 1 ≤ sizeLine := by decide
theorem sL2 : 2 ≤ sizeLine := by decide
theorem sL3 : 3 ≤ sizeLine := by decide
theorem sL4 : 4 ≤ sizeLine := by decide
theorem sLt : 3 < sizeLine := by decide
theorem shp3 : ∀ a b c : Bool, SeqAt.shaped (.list [.bool a, .bool b, .bool c]) = true := by decide
theorem shp4 : ∀ a b c d : Bool, SeqAt.shaped (.list [.bool a, .bool b, .bool c, .bool d]) = true := by decide
end Fx

end
/-! ## Fx19 -/
section
namespace Fx
open PySem
open L2 (atI ixN Key)
/-! ### what holds behind a run: Q at its end, E at an error -/
def wp {α : Type} (r : Rs α) (Q : α → Store → Prop) (E : Ex → Store → Prop) : Prop := match r with
  | .ok a S => Q a S
  | .ex e S => E e S
  | .no => False
def wpS (r : RsS) (Q : Fl → Store → Prop) (E : Ex → Env → Store → Prop) : Prop := match r with
  | .ok f S => Q f S
  | .ex e env S => E e env S
  | .no => False
abbrev nE : Ex → Store → Prop := fun _ _ => False
abbrev nES : Ex → Env → Store → Prop := fun _ _ _ => False
section
variable {α β : Type} {Q Q' : α → Store → Prop} {R R' : Fl → Store → Prop} {S S' : Store} {env env' : Env} {E E' : Ex → Store → Prop} {G G' : Ex → Env → Store → Prop}
theorem wp_ok {a : α} : wp (.ok a S) Q E = Q a S := rfl
theorem wpS_ok {f : Fl} : wpS (.ok f S) R G = R f S := rfl
theorem wp_ex {e : Ex} : wp (.ex e S) Q E = E e S := rfl
theorem wpS_ex {e : Ex} : wpS (.ex e env S) R G = G e env S := rfl
theorem wp_out {r : Rs α} (h : wp r Q nE) : ∃ a S, r = .ok a S ∧ Q a S := by
  cases r with
  | ok a S => exact ⟨a, S, rfl, h⟩
  | ex _ _ => exact h.elim
  | no => exact h.elim
theorem wp_of {r : Rs α} {a : α} (h : r = .ok a S) (q : Q a S) : wp r Q E := by rw [h]; exact q
theorem wpS_of {r : RsS} {a : Fl} (h : r = .ok a S) (q : R a S) : wpS r R G := by rw [h]; exact q
theorem wp_mono {r : Rs α} (h : wp r Q E) (w : ∀ a S, Q a S → Q' a S) (v : ∀ e S, E e S → E' e S) : wp r Q' E' := by
  cases r with
  | ok a S => exact w a S h
  | ex e S => exact v e S h
  | no => exact h.elim
theorem wpS_mono {r : RsS} (h : wpS r R G) (w : ∀ a S, R a S → R' a S) (v : ∀ e env S, G e env S → G' e env S) : wpS r R' G' := by
  cases r with
  | ok a S => exact w a S h
  | ex e env S => exact v e env S h
  | no => exact h.elim
theorem wp_bd {m : M β} {k : β → M α} : wp (bd m k S) Q E = wp (m S) (fun a S' => wp (k a S') Q E) E := by
  simp only [bd]; cases m S <;> rfl
theorem wp_bdN {m : M β} {k : β → M α} : wp (bdN m k S) Q E = wp (m S) (fun a S' => wp (k a S') Q E) nE := by
  simp only [bdN]; cases m S <;> rfl
theorem wp_pur {a : α} : wp (pur a S) Q E = Q a S := rfl
theorem wp_some {a : α} : wp (opt (some a) S) Q E = Q a S := rfl
theorem wpS_lft {m : M β} {k : β → MS} : wpS (lft m env k S) R G = wp (m S) (fun a S' => wpS (k a S') R G) (fun e S' => G e env S') := by
  simp only [lft]; cases m S <;> rfl
/-- what follows -/
def sqQ (g : Env → MS) (R : Fl → Store → Prop) (G : Ex → Env → Store → Prop) : Fl → Store → Prop := fun fl S => match fl with
  | .nx env => wpS (g env S) R G
  | fl => R fl S
theorem sqQ_nx {g : Env → MS} : sqQ g R G (.nx env) S = wpS (g env S) R G := rfl
theorem sqQ_rt {g : Env → MS} {d : D} : sqQ g R G (.rt d) S = R (.rt d) S := rfl
theorem sqQ_bk {g : Env → MS} : sqQ g R G (.bk env) S = R (.bk env) S := rfl
theorem sqQ_ct {g : Env → MS} : sqQ g R G (.ct env) S = R (.ct env) S := rfl
theorem wpS_seq {g g' : Env → MS} : wpS (seqS g g' env S) R G = wpS (g env S) (sqQ g' R G) G := by
  simp only [seqS]
  cases g env S with
  | ok f S => cases f <;> rfl
  | ex _ _ _ => rfl
  | no => rfl
/-- what a def's end is -/
def flQ (Q : D → Store → Prop) : Fl → Store → Prop := fun fl S => match fl with
  | .rt d => Q d S
  | .nx _ => Q .non S
  | _ => False
variable {P : D → Store → Prop}
theorem flQ_rt {d : D} : flQ P (.rt d) S = P d S := rfl
theorem flQ_nx : flQ P (.nx env) S = P .non S := rfl
theorem wp_body {n m : Nat} {b : Env → MS} {ds : List D} : wp (bodyD n m b ds S) P E = (ds.length = m ∧ wpS (b (ent n ds) S) (flQ P) (fun e _ S' => E e S')) := by
  simp only [bodyD]
  by_cases h : ds.length = m
  · rw [if_pos h]
    simp only [h, true_and]
    cases b (ent n ds) S with
    | ok f S => cases f <;> rfl
    | ex _ _ _ => rfl
    | no => rfl
  · rw [if_neg h]
    simp only [h, false_and]
    rfl
theorem wpS_if {p : Env → M Bool} {g g' : Env → MS} : wpS (ifS p g g' env S) R G = wp (p env S) (fun b S' => (b = true → wpS (g env S') R G) ∧ (b = false → wpS (g' env S') R G)) (fun e S' => G e env S') := by
  simp only [ifS, wpS_lft]
  congr 1
  funext b S'
  cases b <;> simp
theorem wp_ite {p : Env → M Bool} {f g : Env → M D} : wp (iteV p f g env S) P E = wp (p env S) (fun b S' => (b = true → wp (f env S') P E) ∧ (b = false → wp (g env S') P E)) E := by
  simp only [iteV, wp_bd]
  congr 1
  funext b S'
  cases b <;> simp
theorem wp_andB {p q : Env → M Bool} {B : Bool → Store → Prop} : wp (andB p q env S) B E = wp (p env S) (fun b S' => (b = true → wp (q env S') B E) ∧ (b = false → B false S')) E := by
  simp only [andB, wp_bd]
  congr 1
  funext b S'
  cases b <;> simp [wp_pur]
theorem wp_orB {p q : Env → M Bool} {B : Bool → Store → Prop} : wp (orB p q env S) B E = wp (p env S) (fun b S' => (b = true → B true S') ∧ (b = false → wp (q env S') B E)) E := by
  simp only [orB, wp_bd]
  congr 1
  funext b S'
  cases b <;> simp [wp_pur]
theorem wp_notB {p : Env → M Bool} {B : Bool → Store → Prop} : wp (notB p env S) B E = wp (p env S) (fun b S' => B (!b) S') E := by
  simp only [notB, wp_bd, wp_pur]
theorem wp_tst {f : Env → M D} {B : Bool → Store → Prop} : wp (tst f env S) B E = wp (f env S) (fun d S' => wp (asB d S') B E) E := by
  simp only [tst, wp_bd]
theorem wp_asB {b : Bool} {B : Bool → Store → Prop} : wp (asB (.bl b) S) B E = B b S := rfl
theorem wp_andV {f g : Env → M D} : wp (andV f g env S) P E = wp (f env S) (fun d S' => wp (asB d S') (fun b S'' => (b = true → wp (g env S'') P E) ∧ (b = false → P (.bl false) S'')) E) E := by
  simp only [andV, wp_bd]
  congr 1
  funext d S'
  congr 1
  funext b S''
  cases b <;> simp [wp_pur]
theorem wp_orV {f g : Env → M D} : wp (orV f g env S) P E = wp (f env S) (fun d S' => wp (asB d S') (fun b S'' => (b = true → P (.bl true) S'') ∧ (b = false → wp (g env S'') P E)) E) E := by
  simp only [orV, wp_bd]
  congr 1
  funext d S'
  congr 1
  funext b S''
  cases b <;> simp [wp_pur]
theorem wp_notV {f : Env → M D} : wp (notV f env S) P E = wp (f env S) (fun d S' => wp (asB d S') (fun b S'' => P (.bl (!b)) S'') E) E := by
  simp only [notV, wp_bd, wp_pur]
theorem wp_getv {i : Nat} {d : D} (h : env[i]? = some (some d)) : wp (getv i env S) P E = P d S := by
  simp only [getv, h, wp_pur]
theorem wp_ifm {c : Prop} [Decidable c] {m : M α} : wp ((if c then m else mno : M α) S) Q E = (c ∧ wp (m S) Q E) := by
  by_cases h : c
  · simp [h]
  · simp [h, mno, wp]
theorem wp_mkL {ds : List D} : wp (mkL ds S) P E = (ds.length ≤ sizeLine ∧ P (.lst ds) S) := by unfold mkL; rw [wp_ifm]; rfl
theorem wp_mkT {ds : List D} : wp (mkT ds S) P E = (ds.length ≤ sizeLine ∧ P (.tup ds) S) := by unfold mkT; rw [wp_ifm]; rfl
theorem wp_mkO {od : OD} : wp (mkO od S) P E = P (.obj S.length) (S ++ [some od]) := rfl
theorem wp_mkN {ds : List D} : wp (mkN ds S) P E = (ds.length ≤ sizeLine ∧ P (.obj S.length) (S ++ [some (.lst ds)])) := by unfold mkN; rw [wp_ifm]; rfl
theorem wp_heard {w : Str} {tab : List (String × Bool)} {qf : Ex → M D} {m : M D} : wp (heardM w tab qf m S) P E = wp (m S) (fun d S' => P (.tup [.str w, d]) S') (fun e S' => tab.lookup e.cls = some true ∧ wp (qf e S') P nE) := by
  simp only [heardM]
  cases m S with
  | ok d S' => rfl
  | ex e S' =>
    by_cases h : tab.lookup e.cls = some true
    · simp only [if_pos h, wp_ex, h, true_and]
      cases qf e S' <;> rfl
    · simp only [if_neg h, wp_ex, h, false_and]
      rfl
  | no => rfl
theorem wpS_try {tab : List (String × Bool)} {b g : Env → MS} : wpS (tryO tab b g env S) R G = wpS (b env S) R (fun e env' S' => match tab.lookup e.cls with
    | some true => wpS (g env' S') R nES
    | some false => G e env' S'
    | none => False) := by
  simp only [tryO]
  cases b env S with
  | ok f S' => rfl
  | ex e env' S' =>
    simp only [wpS_ex]
    cases tab.lookup e.cls with
    | none => rfl
    | some v =>
      cases v with
      | false => rfl
      | true =>
        simp only
        cases g env' S' <;> rfl
  | no => rfl
theorem wp_for {m : Env → M (List D)} {t : D → Env → Option Env} {b : Env → MS} : wpS (forS m t b env S) R G = wp (m env S) (fun ds S' => wpS (loop t b ds env S') R G) (fun e S' => G e env S') := by
  simp only [forS, wpS_lft]
theorem wp_loop (I : Nat → Env → Store → Prop) {t : D → Env → Option Env} {b : Env → MS} : ∀ (ds : List D) (i : Nat) (env : Env) (S : Store), I i env S →
    (∀ k d env S, ds[k]? = some d → I (i + k) env S → ∃ env1, t d env = some env1 ∧ wpS (b env1 S) (fun fl S' => match fl with
      | .nx e => I (i + k + 1) e S'
      | .ct e => I (i + k + 1) e S'
      | .bk e => R (.nx e) S'
      | .rt d => R (.rt d) S') G) →
    (∀ env S, I (i + ds.length) env S → R (.nx env) S) → wpS (loop t b ds env S) R G
  | [], i, env, S, h, _, e => e env S h
  | d :: ds, i, env, S, h, step, e => by
    obtain ⟨env1, h1, h2⟩ := step 0 d env S rfl h
    have rest : ∀ env S, I (i + 1) env S → wpS (loop t b ds env S) R G := fun env S hi =>
      wp_loop I ds (i + 1) env S hi (fun k d env S hk hI => by
        obtain ⟨env1, g1, g2⟩ := step (k + 1) d env S hk (by rw [show i + (k + 1) = i + 1 + k by omega]; exact hI)
        refine ⟨env1, g1, ?_⟩
        rw [show i + 1 + k + 1 = i + (k + 1) + 1 by omega]
        exact g2) (fun env S hI => e env S (by rw [List.length_cons, show i + (ds.length + 1) = i + 1 + ds.length by omega]; exact hI))
    unfold loop
    simp only [h1]
    cases q : b env1 S with
    | no => rw [q] at h2; exact h2.elim
    | ex x env3 S3 => rw [q] at h2; exact h2
    | ok fl S' =>
      rw [q] at h2
      cases fl with
      | nx e2 => exact rest e2 S' h2
      | ct e2 => exact rest e2 S' h2
      | bk e2 => exact h2
      | rt d2 => exact h2
theorem wp_cmp {vs : List Nat} {mk : List D → M D} {m : Env → M (List D)} {t : D → Env → Option Env} {c : Env → M Bool} {el : Env → M D} : wp (cmp vs mk m t c el env S) P E = wp (m env S) (fun ds S' => wp (compL mk t c el (wipeE env vs) ds [] S') P E) E := by
  simp only [cmp, wp_bd]
theorem wp_comp (I : Nat → List D → Store → Prop) {mk : List D → M D} {t : D → Env → Option Env} {c : Env → M Bool} {el : Env → M D} {env0 : Env} (n : Nat) (hn : n ≤ sizeLine) : ∀ (ds : List D) (i : Nat) (acc : List D) (S : Store), i + ds.length = n → acc.length ≤ i → I i acc S →
    (∀ k d acc S, ds[k]? = some d → acc.length ≤ i + k → I (i + k) acc S → ∃ env1, t d env0 = some env1 ∧ wp (c env1 S) (fun b S' => (b = true → wp (el env1 S') (fun y S'' => I (i + k + 1) (acc ++ [y]) S'') nE) ∧ (b = false → I (i + k + 1) acc S')) nE) →
    (∀ acc S, acc.length ≤ n → I n acc S → wp (mk acc S) P E) → wp (compL mk t c el env0 ds acc S) P E
  | [], i, acc, S, hi, ha, h, _, e => by
    have : i = n := by simpa using hi
    subst this
    exact e acc S ha h
  | d :: ds, i, acc, S, hi, ha, h, step, e => by
    obtain ⟨env1, h1, h2⟩ := step 0 d acc S rfl ha h
    have hi' : i + 1 + ds.length = n := by simp at hi; omega
    have rest : ∀ acc S, acc.length ≤ i + 1 → I (i + 1) acc S → wp (compL mk t c el env0 ds acc S) P E := fun acc S ha hI =>
      wp_comp I n hn ds (i + 1) acc S hi' ha hI (fun k d acc S hk ha hI => by
        obtain ⟨env1, g1, g2⟩ := step (k + 1) d acc S hk (by omega) (by rw [show i + (k + 1) = i + 1 + k by omega]; exact hI)
        refine ⟨env1, g1, ?_⟩
        rw [show i + 1 + k + 1 = i + (k + 1) + 1 by omega]
        exact g2) e
    obtain ⟨b, S', h3, h4⟩ := wp_out h2
    unfold compL
    simp only [h1, wp_bdN, h3, wp_ok]
    cases b with
    | false => simpa using rest acc S' (by omega) (h4.2 rfl)
    | true =>
      simp only [if_true, wp_bdN]
      refine wp_mono (h4.1 rfl) (fun y S'' hI => ?_) (fun _ _ z => z)
      have : acc.length < sizeLine := by simp at hi; omega
      rw [if_pos this]
      exact rest _ _ (by simp; omega) hI
/-- without a test -/
theorem wp_map (I : Nat → List D → Store → Prop) {mk : List D → M D} {t : D → Env → Option Env} {el : Env → M D} {env0 : Env} {ds : List D} {S : Store} (hn : ds.length ≤ sizeLine) (h0 : I 0 [] S)
    (step : ∀ k d acc S, ds[k]? = some d → acc.length ≤ k → I k acc S → ∃ env1, t d env0 = some env1 ∧ wp (el env1 S) (fun y S' => I (k + 1) (acc ++ [y]) S') nE)
    (e : ∀ acc S, acc.length ≤ ds.length → I ds.length acc S → wp (mk acc S) P E) : wp (compL mk t (fun _ => pur true) el env0 ds [] S) P E :=
  wp_comp I ds.length hn ds 0 [] S (by simp) (by simp) h0 (fun k d acc S hk ha hI => by
    rw [Nat.zero_add] at ha hI ⊢
    obtain ⟨env1, h1, h2⟩ := step k d acc S hk ha hI
    exact ⟨env1, h1, fun _ => h2, fun z => by cases z⟩) e
/-- a dict comprehension without a test -/
theorem wp_mapD (I : Nat → List (Key × D) → Store → Prop) {t : D → Env → Option Env} {kx vx : Env → M D} {env0 : Env} : ∀ (ds : List D) (i : Nat) (acc : List (Key × D)) (S : Store), acc.length ≤ i → i + ds.length ≤ sizeLine → I i acc S →
    (∀ k d acc S, ds[k]? = some d → I (i + k) acc S → ∃ env1, t d env0 = some env1 ∧ wp (kx env1 S) (fun y S' => wp (vx env1 S') (fun z S'' => ∃ q, keyOf y = some q ∧ I (i + k + 1) (putD acc q z) S'') nE) nE) →
    (∀ acc S, I (i + ds.length) acc S → P (.obj S.length) (S ++ [some (.dct acc)])) → wp (compD t (fun _ => pur true) kx vx env0 ds acc S) P E
  | [], i, acc, S, _, _, h, _, e => e acc S h
  | d :: ds, i, acc, S, ha, hl, h, step, e => by
    obtain ⟨env1, h1, h2⟩ := step 0 d acc S rfl h
    unfold compD
    simp only [h1, wp_bdN, wp_pur, if_true]
    refine wp_mono h2 (fun y S1 h3 => ?_) (fun _ _ z => z)
    refine wp_mono h3 (fun z S2 ⟨q, h4, h5⟩ => ?_) (fun _ _ z => z)
    simp only [h4, wp_some]
    have hlt : acc.length < sizeLine := by simp at hl; omega
    rw [if_pos hlt]
    refine wp_mapD I ds (i + 1) _ S2 ?_ (by simp at hl; omega) h5 (fun k d acc S hk hI => ?_) (fun acc S hI => e acc S (by rw [List.length_cons, show i + (ds.length + 1) = i + 1 + ds.length by omega]; exact hI))
    · unfold putD
      split
      · simp; omega
      · simp; omega
    · obtain ⟨env1, g1, g2⟩ := step (k + 1) d acc S hk (by rw [show i + (k + 1) = i + 1 + k by omega]; exact hI)
      refine ⟨env1, g1, ?_⟩
      rw [show i + 1 + k + 1 = i + (k + 1) + 1 by omega]
      exact g2
end
end Fx

end
/-! ## K03a -/
section
namespace K03
open PySem PySem.Spec PyProof.Rows L2 Fx
variable [tb : Tabl]

def top (i : Nat) : Stmt := PySem.Challenge.pw_lateforms_k03_plain_stores_checked.main.body.getD i (.Pass ⟨0, 0, 0, 0⟩)
abbrev s_law_feed : Stmt := top 41
abbrev s_law_draw : Stmt := top 42
abbrev s_law_value : Stmt := top 52
abbrev s_law_store : Stmt := top 53
abbrev s_law_base : Stmt := top 62
abbrev s_law_by_hand : Stmt := top 63
abbrev s_law_ordered : Stmt := top 51
abbrev s_law_schema : Stmt := top 50
abbrev s_law_odd : Stmt := top 54
abbrev s_law_bent : Stmt := top 55
abbrev s_form_of : Stmt := top 28
abbrev s_is_link : Stmt := top 29
abbrev s_check_links : Stmt := top 39
abbrev s_ascends : Stmt := top 26
abbrev s_is_name : Stmt := top 19
abbrev s_are_named : Stmt := top 25
abbrev s_links_lead : Stmt := top 24
abbrev s_is_integer : Stmt := top 17
abbrev s_is_range : Stmt := top 20
abbrev s_is_kind : Stmt := top 21
abbrev s_is_form : Stmt := top 22
abbrev s_is_schema : Stmt := top 23
abbrev s_is_number : Stmt := top 18
abbrev s_is_row : Stmt := top 36
abbrev s_has_shape : Stmt := top 35
abbrev s_in_range : Stmt := top 31
abbrev s_could_suit : Stmt := top 38
abbrev s_check_object : Stmt := top 37
abbrev s_lets_plain : Stmt := top 34
abbrev s_is_plain : Stmt := top 33
abbrev s_law_rises : Stmt := top 45
abbrev s_law_named : Stmt := top 44
abbrev s_law_pairs_of : Stmt := top 47
abbrev s_law_integer : Stmt := top 43
abbrev s_law_kinded : Stmt := top 46
abbrev s_law_formed : Stmt := top 48
abbrev s_law_schemed : Stmt := top 49
abbrev s_law_has_shape : Stmt := top 57
abbrev s_law_value_ok : Stmt := top 58
abbrev s_law_objects_fault : Stmt := top 59
abbrev s_law_links_fault : Stmt := top 60
abbrev s_law_heard : Stmt := top 56
abbrev s_law_right : Stmt := top 61
abbrev s_law : Stmt := top 64
def tabs_InvalidPaper : List (String × Bool) := [("InvalidPaper", true)]
def tabs_LateError : List (String × Bool) := [("InvalidPaper", true)]
def tabI_InvalidPaper : List (String × Bool) := [("InvalidPaper", true)]
def tabI_InvalidText : List (String × Bool) := [("InvalidPaper", false)]
def tabI_PaperError : List (String × Bool) := [("InvalidPaper", true)]
def tabI_StoreError : List (String × Bool) := [("InvalidPaper", false)]
def tabI_TextError : List (String × Bool) := [("InvalidPaper", false)]
def tabI_UnfitExpression : List (String × Bool) := [("InvalidPaper", false)]
def tabI_UnknownObject : List (String × Bool) := [("InvalidPaper", false)]
def tabI_InvalidStep_GoneCell_NothingToUndo_InvalidPace_InvalidCommand : List (String × Bool) := [("InvalidPaper", false)]

structure Tx (K : PySem.W.Frag) (mg : Str → Option Value) (base : Heap) : Prop where
  d_law_feed : DefAt K mg "_law_feed" s_law_feed ["_law_script"]
  d_law_draw : DefAt K mg "_law_draw" s_law_draw ["_law_feed_here", "_law_many"]
  d_law_value : DefAt K mg "_law_value" s_law_value ["_law_feed_here", "_law_sort", "_law_heads"]
  d_law_store : DefAt K mg "_law_store" s_law_store ["_law_feed_here", "_law_scheme"]
  d_law_base : DefAt K mg "_law_base" s_law_base []
  d_law_by_hand : DefAt K mg "_law_by_hand" s_law_by_hand []
  d_law_ordered : DefAt K mg "_law_ordered" s_law_ordered ["_law_entries"]
  d_law_schema : DefAt K mg "_law_schema" s_law_schema ["_law_feed_here"]
  d_law_odd : DefAt K mg "_law_odd" s_law_odd ["_law_feed_here"]
  d_law_bent : DefAt K mg "_law_bent" s_law_bent ["_law_feed_here", "_law_item"]
  d_form_of : DefAt K mg "form_of" s_form_of ["schema", "cls"]
  d_is_link : DefAt K mg "is_link" s_is_link ["kind"]
  d_check_links : DefAt K mg "check_links" s_check_links ["schema", "objects"]
  d_ascends : DefAt K mg "ascends" s_ascends ["names"]
  d_is_name : DefAt K mg "is_name" s_is_name ["thing"]
  d_are_named : DefAt K mg "are_named" s_are_named ["thing"]
  d_links_lead : DefAt K mg "links_lead" s_links_lead ["form", "classes"]
  d_is_integer : DefAt K mg "is_integer" s_is_integer ["thing"]
  d_is_range : DefAt K mg "is_range" s_is_range ["thing"]
  d_is_kind : DefAt K mg "is_kind" s_is_kind ["thing"]
  d_is_form : DefAt K mg "is_form" s_is_form ["thing"]
  d_is_schema : DefAt K mg "is_schema" s_is_schema ["thing"]
  d_is_number : DefAt K mg "is_number" s_is_number ["thing"]
  d_is_row : DefAt K mg "is_row" s_is_row ["row"]
  d_has_shape : DefAt K mg "has_shape" s_has_shape ["thing"]
  d_in_range : DefAt K mg "in_range" s_in_range ["kind", "value"]
  d_could_suit : DefAt K mg "could_suit" s_could_suit ["kind", "value"]
  d_check_object : DefAt K mg "check_object" s_check_object ["schema", "k", "row"]
  d_lets_plain : DefAt K mg "lets_plain" s_lets_plain ["thing"]
  d_is_plain : DefAt K mg "is_plain" s_is_plain ["thing"]
  d_law_rises : DefAt K mg "_law_rises" s_law_rises ["_law_some"]
  d_law_named : DefAt K mg "_law_named" s_law_named ["_law_item"]
  d_law_pairs_of : DefAt K mg "_law_pairs_of" s_law_pairs_of ["_law_item"]
  d_law_integer : DefAt K mg "_law_integer" s_law_integer ["_law_item"]
  d_law_kinded : DefAt K mg "_law_kinded" s_law_kinded ["_law_item"]
  d_law_formed : DefAt K mg "_law_formed" s_law_formed ["_law_item"]
  d_law_schemed : DefAt K mg "_law_schemed" s_law_schemed ["_law_item"]
  d_law_has_shape : DefAt K mg "_law_has_shape" s_law_has_shape ["_law_item"]
  d_law_value_ok : DefAt K mg "_law_value_ok" s_law_value_ok ["_law_sort", "_law_late"]
  d_law_objects_fault : DefAt K mg "_law_objects_fault" s_law_objects_fault ["_law_item"]
  d_law_links_fault : DefAt K mg "_law_links_fault" s_law_links_fault ["_law_item"]
  d_law_heard : DefAt K mg "_law_heard" s_law_heard ["_law_ask"]
  d_law_right : DefAt K mg "_law_right" s_law_right ["_law_item"]
  d_law : DefAt K mg "law" s_law ["_law_script"]
  b_all : mg "all" = none
  b_bool : mg "bool" = none
  b_dict : mg "dict" = none
  b_enumerate : mg "enumerate" = none
  b_int : mg "int" = none
  b_isinstance : mg "isinstance" = none
  b_len : mg "len" = none
  b_list : mg "list" = none
  b_ord : mg "ord" = none
  b_range : mg "range" = none
  b_repr : mg "repr" = none
  b_sorted : mg "sorted" = none
  b_str : mg "str" = none
  b_tuple : mg "tuple" = none
  c_LETTERS : ∃ u, mg "LETTERS" = some u ∧ RelV (V.str "abcdefghijklmnopqrstuvwxyz") u
  c_LONGEST : ∃ u, mg "LONGEST" = some u ∧ RelV (V.int 8) u
  n_InvalidPaper : ∃ D, mg "InvalidPaper" = some (.ref D) ∧ ∀ p ∈ tabs_InvalidPaper, SubX K mg p.1 (.ref D) p.2
  n_LateError : ∃ D, mg "LateError" = some (.ref D) ∧ ∀ p ∈ tabs_LateError, SubX K mg p.1 (.ref D) p.2
  x_InvalidPaper : XAt2 K mg (Str.ofString "InvalidPaper") "word" "at"
  L_InvalidPaper : XLook K mg "InvalidPaper" ["at", "field", "number", "path", "row", "word"]
  k_InvalidPaper : ∀ p ∈ tabI_InvalidPaper, KitAt K mg p.1 "InvalidPaper" p.2
  k_InvalidText : ∀ p ∈ tabI_InvalidText, KitAt K mg p.1 "InvalidText" p.2
  k_PaperError : ∀ p ∈ tabI_PaperError, KitAt K mg p.1 "PaperError" p.2
  k_StoreError : ∀ p ∈ tabI_StoreError, KitAt K mg p.1 "StoreError" p.2
  k_TextError : ∀ p ∈ tabI_TextError, KitAt K mg p.1 "TextError" p.2
  k_UnfitExpression : ∀ p ∈ tabI_UnfitExpression, KitAt K mg p.1 "UnfitExpression" p.2
  k_UnknownObject : ∀ p ∈ tabI_UnknownObject, KitAt K mg p.1 "UnknownObject" p.2
  k_InvalidStep_GoneCell_NothingToUndo_InvalidPace_InvalidCommand : ∀ p ∈ tabI_InvalidStep_GoneCell_NothingToUndo_InvalidPace_InvalidCommand, KitTAt K mg p.1 ["InvalidStep", "GoneCell", "NothingToUndo", "InvalidPace", "InvalidCommand"] p.2
  l_law_right : ∃ c P, CodeAt K mg "_law_right" (.ref c) ∧ LamX.TabB base mg c P ∧ (P, ("_law_right.<locals>.<lambda>" : Str)) ∈ tb.T ∧ ∀ p ∈ tb.T, p.1 = P → p.2 = "_law_right.<locals>.<lambda>"

def hbody (st : Stmt) : List Stmt := match defBody st with
  | [.Try _ [.ExceptHandler _ _ b _] _ _ _] => b
  | _ => []
def bs_law_heard (a dd : Addr) (y : String) : Fx.Env → MS := (seqS (set 2 (dsp mkL (cns (isE a dd 1 (tabI_PaperError.lookup y)) (cns (isE a dd 1 (tabI_StoreError.lookup y)) (cns (isE a dd 1 (tabI_TextError.lookup y)) (fun _ => pur []))))))
  (seqS (set 3 (dsp mkN (cns (isE a dd 1 (tabI_InvalidPaper.lookup y)) (cns (isE a dd 1 (tabI_UnknownObject.lookup y)) (cns (isE a dd 1 (tabI_UnfitExpression.lookup y)) (fun _ => pur []))))))
  (seqS (drop (met (getv 3) (cns (isE a dd 1 (tabI_InvalidText.lookup y)) (fun _ => pur [])) appD))
  (frzV 3 (seqS (set 4 (isE a dd 1 (tabI_InvalidStep_GoneCell_NothingToUndo_InvalidPace_InvalidCommand.lookup y)))
  (seqS (ifS (andB (tst (bin eqD (getv 2) (dsp mkL (cns (fun _ => pur (.bl true)) (cns (fun _ => pur (.bl false)) (cns (fun _ => pur (.bl false)) (fun _ => pur []))))))) (andB (tst (bin eqD (getv 3) (dsp mkL (cns (fun _ => pur (.bl true)) (cns (fun _ => pur (.bl false)) (cns (fun _ => pur (.bl false)) (cns (fun _ => pur (.bl false)) (fun _ => pur [])))))))) (notB (tst (getv 4))))) (ret (dsp mkT (cns (fun _ => pur (.str "paper")) (cns (fldE a dd 1 "word") (cns (fldE a dd 1 "at") (fun _ => pur [])))))) pass)
  (seqS (ifS (andB (tst (bin eqD (getv 2) (dsp mkL (cns (fun _ => pur (.bl false)) (cns (fun _ => pur (.bl true)) (cns (fun _ => pur (.bl false)) (fun _ => pur []))))))) (andB (tst (bin eqD (getv 3) (dsp mkL (cns (fun _ => pur (.bl false)) (cns (fun _ => pur (.bl true)) (cns (fun _ => pur (.bl false)) (cns (fun _ => pur (.bl false)) (fun _ => pur [])))))))) (notB (tst (getv 4))))) (ret (dsp mkT (cns (fun _ => pur (.str "object")) (cns (fldE a dd 1 "number") (fun _ => pur []))))) pass)
  (seqS (ifS (andB (tst (bin eqD (getv 2) (dsp mkL (cns (fun _ => pur (.bl false)) (cns (fun _ => pur (.bl true)) (cns (fun _ => pur (.bl false)) (fun _ => pur []))))))) (andB (tst (bin eqD (getv 3) (dsp mkL (cns (fun _ => pur (.bl false)) (cns (fun _ => pur (.bl false)) (cns (fun _ => pur (.bl true)) (cns (fun _ => pur (.bl false)) (fun _ => pur [])))))))) (notB (tst (getv 4))))) (ret (dsp mkT (cns (fun _ => pur (.str "unfit")) (cns (fldE a dd 1 "path") (fun _ => pur []))))) pass)
  (seqS (ifS (andB (tst (bin eqD (getv 2) (dsp mkL (cns (fun _ => pur (.bl false)) (cns (fun _ => pur (.bl false)) (cns (fun _ => pur (.bl true)) (fun _ => pur []))))))) (andB (tst (bin eqD (getv 3) (dsp mkL (cns (fun _ => pur (.bl false)) (cns (fun _ => pur (.bl false)) (cns (fun _ => pur (.bl false)) (cns (fun _ => pur (.bl true)) (fun _ => pur [])))))))) (notB (tst (getv 4))))) (ret (dsp mkT (cns (fun _ => pur (.str "text")) (cns (fldE a dd 1 "row") (cns (fldE a dd 1 "field") (fun _ => pur [])))))) pass)
  (ret (dsp mkT (cns (fun _ => pur (.str "odd")) (fun _ => pur [])))))))))))))
def sg_law_heard (a dd : Addr) (y : String) : Fx.Env → MS := if y = "InvalidPaper" then bs_law_heard a dd "InvalidPaper" else fun _ _ => .no
def qf_law_heard (e : Ex) : M D := fun S => match e.fs with
  | [(n0, d0), (n1, d1)] => if e.cls = "InvalidPaper" ∧ n0 = "at" ∧ n1 = "word" then .ok (.tup [.str "paper", d1, d0]) (S ++ [none]) else .no
  | _ => .no
theorem nq_at_word : (("at" : Str) == ("word" : Str)) = false := by decide
theorem nq_word_at : (("word" : Str) == ("at" : Str)) = false := by decide
theorem hq_law_heard : ∀ (a dd : Addr) (e : Ex) (S : Store) (d : D) (S2 : Store), qf_law_heard e S = .ok d S2 → sg_law_heard a dd e.cls ((List.replicate 5 none).set 1 (some (.err a dd (e.fs.map (·.1)) (e.fs.map (·.2))))) S = .ok (.rt d) S2 := by
  rintro a dd ⟨cls, fs⟩ S d S2 h
  unfold qf_law_heard at h
  split at h
  · rename_i n0 d0 n1 d1 he
    simp only at he
    subst he
    split at h
    · rename_i hc
      obtain ⟨hc, rfl, rfl⟩ := hc
      simp only at hc
      subst hc
      cases h
      simp [sg_law_heard, bs_law_heard, Fx.isE, Fx.fldE, Fx.seqS, Fx.ifS, Fx.ret, Fx.set, Fx.drop, Fx.asg, Fx.lft, Fx.bd, Fx.pur, Fx.opt, Fx.tst, Fx.asB, Fx.bin, Fx.getv, Fx.cns, Fx.cal, Fx.andV, Fx.orV, Fx.notV, Fx.andB, Fx.orB, Fx.notB, Fx.dsp, Fx.pass, Fx.mkL, Fx.mkN, Fx.mkO, Fx.mkT, Fx.met, Fx.objL, Fx.appD, Fx.putL, Fx.frzV, Fx.eqD, Fx.pyM, Fx.pyD, Fx.pyDs, Fx.ite_ap0, Fx.sL1, Fx.sL2, Fx.sL3, Fx.sL4, Fx.sLt, Fx.shp3, Fx.shp4, nq_at_word, nq_word_at, tabI_InvalidPaper, tabI_InvalidText, tabI_PaperError, tabI_StoreError, tabI_TextError, tabI_UnfitExpression, tabI_UnknownObject, tabI_InvalidStep_GoneCell_NothingToUndo_InvalidPace_InvalidCommand, List.lookup, PyData.eqv, PyData.eqvAll]
    ·
      cases h
  · cases h
def b_law_feed : Fx.Env → MS := (ret (dspD [.inr "cells", .inr "at", .inr "left", .inr "count"] (cns (cal (cns (slc (getv 0) (fun _ => pur none) (fun env => bd ((fun _ => pur (.int 63)) env) intOf)) (fun _ => pur [])) (listD mkL)) (cns (fun _ => pur (.int 0)) (cns (fun _ => pur (.int 0)) (cns (fun _ => pur (.int 0)) (fun _ => pur [])))))))
def g_law_feed : List D → M D := bodyD 1 1 b_law_feed
def b_law_draw : Fx.Env → MS := (seqS (dput (getv 0) (fun _ => pur (.str "count")) (bin (addD mkL) (bin dgetD (getv 0) (fun _ => pur (.str "count"))) (fun _ => pur (.int 1))))
  (seqS (ifS (tst (bin gtD (bin dgetD (getv 0) (fun _ => pur (.str "left"))) (fun _ => pur (.int 0)))) (seqS (set 2 (bin modD (cal (cns (bin dgetD (getv 0) (fun _ => pur (.str "left"))) (fun _ => pur [])) intD) (getv 1)))
  (seqS (dput (getv 0) (fun _ => pur (.str "left")) (bin fdivD (bin dgetD (getv 0) (fun _ => pur (.str "left"))) (getv 1)))
  (ret (getv 2)))) pass)
  (seqS (set 3 (bin dgetD (getv 0) (fun _ => pur (.str "at"))))
  (seqS (dput (getv 0) (fun _ => pur (.str "at")) (bin (addD mkL) (getv 3) (fun _ => pur (.int 1))))
  (seqS (set 4 (iteV (tst (bin neD (bin dgetD (getv 0) (fun _ => pur (.str "cells"))) (dsp mkL (fun _ => pur [])))) (bin ixD (bin dgetD (getv 0) (fun _ => pur (.str "cells"))) (bin modD (cal (cns (getv 3) (fun _ => pur [])) intD) (cal (cns (bin dgetD (getv 0) (fun _ => pur (.str "cells"))) (fun _ => pur [])) lenD))) (fun _ => pur (.int 37))))
  (seqS (ifS (andB (tst (bin geD (getv 4) (bin powD (fun _ => pur (.int 10)) (fun _ => pur (.int 18))))) (tst (bin ltD (getv 3) (cal (cns (bin dgetD (getv 0) (fun _ => pur (.str "cells"))) (fun _ => pur [])) lenD)))) (seqS (dput (getv 0) (fun _ => pur (.str "left")) (bin fdivD (getv 4) (getv 1)))
  (ret (bin modD (cal (cns (getv 4) (fun _ => pur [])) intD) (getv 1)))) pass)
  (seqS (set 5 (bin modD (cal (cns (bin (addD mkL) (bin (addD mkL) (bin modD (cal (cns (getv 4) (fun _ => pur [])) intD) (fun _ => pur (.int 1000000531))) (bin mulD (fun _ => pur (.int 150001)) (bin dgetD (getv 0) (fun _ => pur (.str "count"))))) (fun _ => pur (.int 73))) (fun _ => pur [])) intD) (fun _ => pur (.int 2147483477))))
  (seqS (set 5 (bin modD (cal (cns (bin (addD mkL) (bin (addD mkL) (bin mulD (getv 5) (getv 5)) (bin mulD (fun _ => pur (.int 4200013)) (bin dgetD (getv 0) (fun _ => pur (.str "count"))))) (fun _ => pur (.int 41))) (fun _ => pur [])) intD) (fun _ => pur (.int 2147483423))))
  (ret (bin modD (cal (cns (bin fdivD (bin modD (cal (cns (bin (addD mkL) (bin mulD (getv 5) (getv 5)) (bin mulD (fun _ => pur (.int 89)) (getv 5))) (fun _ => pur [])) intD) (fun _ => pur (.int 2147483353))) (fun _ => pur (.int 16))) (fun _ => pur [])) intD) (getv 1)))))))))))
def g_law_draw : List D → M D := bodyD 6 2 b_law_draw
def b_law_value : Fx.Env → MS := (seqS (ifS (tst (isi "tuple" (getv 1))) (ret (bin (addD mkL) (bin ixD (getv 1) (fun _ => pur (.int 0))) (cal (cns (getv 0) (cns (bin (addD mkL) (bin subD (bin ixD (getv 1) (fun _ => pur (.int 1))) (bin ixD (getv 1) (fun _ => pur (.int 0)))) (fun _ => pur (.int 1))) (fun _ => pur []))) g_law_draw))) pass)
  (seqS (set 3 (cmp [4, 5] mkL (itf (getv 2)) (toTup (toCons (toN 4) (toCons (toN 5) toNil))) (tst (bin eqD (getv 5) (getv 1))) (getv 4)))
  (ret (iteV (orB (tst (bin eqD (getv 3) (dsp mkL (fun _ => pur [])))) (tst (bin eqD (cal (cns (getv 0) (cns (fun _ => pur (.int 4)) (fun _ => pur []))) g_law_draw) (fun _ => pur (.int 0))))) (fun _ => pur .non) (bin ixD (getv 3) (cal (cns (getv 0) (cns (cal (cns (getv 3) (fun _ => pur [])) lenD) (fun _ => pur []))) g_law_draw))))))
def g_law_value : List D → M D := bodyD 6 3 b_law_value
def b_law_store : Fx.Env → MS := (seqS (asg (dsp mkT (cns (dsp mkN (fun _ => pur [])) (cns (dsp mkN (fun _ => pur [])) (cns (cal (cns (getv 1) (fun _ => pur [])) dictD) (fun _ => pur []))))) (toTup (toCons (toN 2) (toCons (toN 3) (toCons (toN 4) toNil)))))
  (seqS (forS (itr1 (cns (fun _ => pur (.int 8)) (fun _ => pur []))) (toN 5) (ifS (tst (bin gtD (cal (cns (getv 0) (cns (fun _ => pur (.int 4)) (fun _ => pur []))) g_law_draw) (fun _ => pur (.int 0)))) (drop (met (getv 2) (cns (dsp mkT (cns (getv 5) (cns (bin ixD (bin ixD (getv 1) (cal (cns (getv 0) (cns (cal (cns (getv 1) (fun _ => pur [])) lenD) (fun _ => pur []))) g_law_draw)) (fun _ => pur (.int 0))) (fun _ => pur [])))) (fun _ => pur [])) appD)) pass))
  (frzV 2 (seqS (forS (itf (getv 2)) (toTup (toCons (toN 5) (toCons (toN 6) toNil))) (drop (met (getv 3) (cns (dsp mkT (cns (getv 5) (cns (getv 6) (cns (cal (cns (cmp [7, 8] mkL (itf (bin dgetD (getv 4) (getv 6))) (toTup (toCons (toN 7) (toCons (toN 8) toNil))) (fun _ => pur true) (cal (cns (getv 0) (cns (getv 8) (cns (getv 2) (fun _ => pur [])))) g_law_value)) (fun _ => pur [])) tupleD) (fun _ => pur []))))) (fun _ => pur [])) appD)))
  (frzV 3 (seqS (set 9 (iteV (andB (tst (bin neD (getv 2) (dsp mkL (fun _ => pur [])))) (tst (bin eqD (cal (cns (getv 0) (cns (fun _ => pur (.int 2)) (fun _ => pur []))) g_law_draw) (fun _ => pur (.int 0))))) (bin (addD mkL) (bin ixD (bin ixD (getv 2) (un negD (fun _ => pur (.int 1)))) (fun _ => pur (.int 0))) (fun _ => pur (.int 1))) (fun _ => pur (.int 8))))
  (ret (dsp mkT (cns (getv 1) (cns (getv 9) (cns (cal (cns (getv 3) (fun _ => pur [])) tupleD) (fun _ => pur []))))))))))))
def g_law_store : List D → M D := bodyD 10 2 b_law_store
def b_law_base : Fx.Env → MS := (seqS (set 0 (dsp mkT (cns (dsp mkT (cns (fun _ => pur (.str "a")) (cns (dsp mkT (cns (dsp mkT (cns (fun _ => pur (.str "n")) (cns (dsp mkT (cns (fun _ => pur (.int 0)) (cns (fun _ => pur (.int 9)) (fun _ => pur [])))) (fun _ => pur [])))) (cns (dsp mkT (cns (fun _ => pur (.str "to")) (cns (fun _ => pur (.str "b")) (fun _ => pur [])))) (fun _ => pur [])))) (fun _ => pur [])))) (cns (dsp mkT (cns (fun _ => pur (.str "b")) (cns (dsp mkT (cns (dsp mkT (cns (fun _ => pur (.str "m")) (cns (dsp mkT (cns (un negD (fun _ => pur (.int 3))) (cns (fun _ => pur (.int 3)) (fun _ => pur [])))) (fun _ => pur [])))) (cns (dsp mkT (cns (fun _ => pur (.str "of")) (cns (fun _ => pur (.str "a")) (fun _ => pur [])))) (cns (dsp mkT (cns (fun _ => pur (.str "self")) (cns (fun _ => pur (.str "b")) (fun _ => pur [])))) (fun _ => pur []))))) (fun _ => pur [])))) (cns (dsp mkT (cns (fun _ => pur (.str "c")) (cns (dsp mkT (fun _ => pur [])) (fun _ => pur [])))) (fun _ => pur []))))))
  (seqS (set 1 (dsp mkT (cns (dsp mkT (cns (fun _ => pur (.int 0)) (cns (fun _ => pur (.str "a")) (cns (dsp mkT (cns (fun _ => pur (.int 0)) (cns (fun _ => pur (.int 2)) (fun _ => pur [])))) (fun _ => pur []))))) (cns (dsp mkT (cns (fun _ => pur (.int 2)) (cns (fun _ => pur (.str "b")) (cns (dsp mkT (cns (un negD (fun _ => pur (.int 3))) (cns (fun _ => pur (.int 0)) (cns (fun _ => pur (.int 2)) (fun _ => pur []))))) (fun _ => pur []))))) (cns (dsp mkT (cns (fun _ => pur (.int 3)) (cns (fun _ => pur (.str "c")) (cns (dsp mkT (fun _ => pur [])) (fun _ => pur []))))) (cns (dsp mkT (cns (fun _ => pur (.int 5)) (cns (fun _ => pur (.str "a")) (cns (dsp mkT (cns (fun _ => pur (.int 9)) (cns (fun _ => pur .non) (fun _ => pur [])))) (fun _ => pur []))))) (cns (dsp mkT (cns (fun _ => pur (.int 6)) (cns (fun _ => pur (.str "b")) (cns (dsp mkT (cns (fun _ => pur (.int 3)) (cns (fun _ => pur (.int 5)) (cns (fun _ => pur .non) (fun _ => pur []))))) (fun _ => pur []))))) (fun _ => pur []))))))))
  (ret (dsp mkT (cns (getv 0) (cns (fun _ => pur (.int 7)) (cns (getv 1) (fun _ => pur []))))))))
def g_law_base : List D → M D := bodyD 2 0 b_law_base
def b_law_by_hand : Fx.Env → MS := (seqS (asg (fun _ => g_law_base []) (toTup (toCons (toN 0) (toCons (toN 1) (toCons (toN 2) toNil)))))
  (seqS (set 3 (dsp mkN (cns (dsp mkT (cns (getv 0) (cns (getv 1) (cns (getv 2) (fun _ => pur []))))) (cns (dsp mkT (cns (getv 0) (cns (fun _ => pur (.int 8)) (cns (getv 2) (fun _ => pur []))))) (cns (dsp mkT (cns (getv 0) (cns (fun _ => pur (.int 6)) (cns (getv 2) (fun _ => pur []))))) (cns (dsp mkT (cns (getv 0) (cns (fun _ => pur (.int 0)) (cns (dsp mkT (fun _ => pur [])) (fun _ => pur []))))) (cns (dsp mkT (cns (getv 0) (cns (fun _ => pur (.int 0)) (cns (slc (getv 2) (fun _ => pur none) (fun env => bd ((fun _ => pur (.int 1)) env) intOf)) (fun _ => pur []))))) (fun _ => pur []))))))))
  (seqS (drop (met (getv 3) (cns (dsp mkL (cns (dsp mkT (cns (getv 0) (cns (un negD (fun _ => pur (.int 1))) (cns (dsp mkT (fun _ => pur [])) (fun _ => pur []))))) (cns (dsp mkT (cns (getv 0) (cns (fun _ => pur (.bl true)) (cns (dsp mkT (fun _ => pur [])) (fun _ => pur []))))) (cns (dsp mkT (cns (getv 0) (cns (fun _ => pur .non) (cns (dsp mkT (fun _ => pur [])) (fun _ => pur []))))) (cns (dsp mkT (cns (getv 0) (cns (fun _ => pur (.int 7)) (fun _ => pur [])))) (cns (dsp mkT (cns (getv 0) (cns (fun _ => pur (.int 7)) (cns (getv 2) (cns (dsp mkT (fun _ => pur [])) (fun _ => pur [])))))) (fun _ => pur []))))))) (fun _ => pur [])) extD))
  (seqS (drop (met (getv 3) (cns (dsp mkL (cns (fun _ => pur .non) (cns (dsp mkT (fun _ => pur [])) (fun _ => pur [])))) (fun _ => pur [])) extD))
  (seqS (drop (met (getv 3) (cns (dsp mkL (cns (dsp mkT (cns (dsp mkT (fun _ => pur [])) (cns (fun _ => pur (.int 0)) (cns (dsp mkT (fun _ => pur [])) (fun _ => pur []))))) (cns (dsp mkT (cns (slc (getv 0) (fun _ => pur none) (fun env => bd ((fun _ => pur (.int 2)) env) intOf)) (cns (fun _ => pur (.int 7)) (cns (getv 2) (fun _ => pur []))))) (cns (dsp mkT (cns (un revD (getv 0)) (cns (fun _ => pur (.int 7)) (cns (getv 2) (fun _ => pur []))))) (fun _ => pur []))))) (fun _ => pur [])) extD))
  (seqS (drop (met (getv 3) (cns (dsp mkL (cns (dsp mkT (cns (cal (cns (getv 0) (fun _ => pur [])) (listD mkL)) (cns (fun _ => pur (.int 7)) (cns (getv 2) (fun _ => pur []))))) (cns (dsp mkT (cns (getv 0) (cns (fun _ => pur (.int 7)) (cns (cal (cns (getv 2) (fun _ => pur [])) (listD mkL)) (fun _ => pur []))))) (fun _ => pur [])))) (fun _ => pur [])) extD))
  (seqS (set 4 (dsp mkN (cns (dsp mkT (cns (fun _ => pur (.int 0)) (cns (fun _ => pur (.str "a")) (cns (dsp mkT (cns (fun _ => pur (.int 0)) (cns (fun _ => pur (.int 2)) (fun _ => pur [])))) (fun _ => pur []))))) (cns (dsp mkL (cns (fun _ => pur (.int 0)) (cns (fun _ => pur (.str "a")) (cns (dsp mkT (cns (fun _ => pur (.int 0)) (cns (fun _ => pur (.int 2)) (fun _ => pur [])))) (fun _ => pur []))))) (cns (dsp mkT (cns (fun _ => pur (.int 0)) (cns (fun _ => pur (.str "a")) (fun _ => pur [])))) (cns (dsp mkT (cns (fun _ => pur (.int 0)) (cns (fun _ => pur (.str "a")) (cns (dsp mkL (cns (fun _ => pur (.int 0)) (cns (fun _ => pur (.int 2)) (fun _ => pur [])))) (fun _ => pur []))))) (cns (dsp mkT (cns (fun _ => pur (.bl true)) (cns (fun _ => pur (.str "a")) (cns (dsp mkT (cns (fun _ => pur (.int 0)) (cns (fun _ => pur (.int 2)) (fun _ => pur [])))) (fun _ => pur []))))) (cns (dsp mkT (cns (un negD (fun _ => pur (.int 1))) (cns (fun _ => pur (.str "a")) (cns (dsp mkT (cns (fun _ => pur (.int 0)) (cns (fun _ => pur (.int 2)) (fun _ => pur [])))) (fun _ => pur []))))) (fun _ => pur [])))))))))
  (seqS (drop (met (getv 4) (cns (dsp mkL (cns (dsp mkT (cns (fun _ => pur (.int 0)) (cns (fun _ => pur (.str "z")) (cns (dsp mkT (cns (fun _ => pur (.int 0)) (cns (fun _ => pur (.int 2)) (fun _ => pur [])))) (fun _ => pur []))))) (cns (dsp mkT (cns (fun _ => pur (.int 0)) (cns (fun _ => pur (.str "A")) (cns (dsp mkT (cns (fun _ => pur (.int 0)) (cns (fun _ => pur (.int 2)) (fun _ => pur [])))) (fun _ => pur []))))) (cns (dsp mkT (cns (fun _ => pur (.int 0)) (cns (fun _ => pur (.str "a")) (cns (dsp mkT (cns (fun _ => pur (.int 0)) (fun _ => pur []))) (fun _ => pur []))))) (cns (dsp mkT (cns (fun _ => pur (.int 0)) (cns (fun _ => pur (.str "a")) (cns (dsp mkT (cns (fun _ => pur (.int 0)) (cns (fun _ => pur (.int 2)) (cns (fun _ => pur (.int 2)) (fun _ => pur []))))) (fun _ => pur []))))) (fun _ => pur [])))))) (fun _ => pur [])) extD))
  (seqS (drop (met (getv 4) (cns (dsp mkL (cns (dsp mkT (cns (fun _ => pur (.int 0)) (cns (fun _ => pur (.str "a")) (cns (dsp mkT (cns (fun _ => pur (.int 10)) (cns (fun _ => pur (.int 2)) (fun _ => pur [])))) (fun _ => pur []))))) (cns (dsp mkT (cns (fun _ => pur (.int 0)) (cns (fun _ => pur (.str "a")) (cns (dsp mkT (cns (un negD (fun _ => pur (.int 1))) (cns (fun _ => pur (.int 2)) (fun _ => pur [])))) (fun _ => pur []))))) (fun _ => pur [])))) (fun _ => pur [])) extD))
  (seqS (drop (met (getv 4) (cns (dsp mkL (cns (dsp mkT (cns (fun _ => pur (.int 0)) (cns (fun _ => pur (.str "a")) (cns (dsp mkT (cns (fun _ => pur .non) (cns (fun _ => pur (.int 2)) (fun _ => pur [])))) (fun _ => pur []))))) (cns (dsp mkT (cns (fun _ => pur (.int 0)) (cns (fun _ => pur (.str "a")) (cns (dsp mkT (cns (fun _ => pur (.bl true)) (cns (fun _ => pur (.int 2)) (fun _ => pur [])))) (fun _ => pur []))))) (cns (dsp mkT (cns (fun _ => pur (.int 0)) (cns (fun _ => pur (.str "a")) (cns (dsp mkT (cns (fun _ => pur (.str "0")) (cns (fun _ => pur (.int 2)) (fun _ => pur [])))) (fun _ => pur []))))) (cns (dsp mkT (cns (fun _ => pur (.int 0)) (cns (fun _ => pur (.str "a")) (cns (dsp mkT (cns (fun _ => pur (.int 0)) (cns (fun _ => pur (.str "2")) (fun _ => pur [])))) (fun _ => pur []))))) (cns (dsp mkT (cns (fun _ => pur (.int 0)) (cns (fun _ => pur (.str "a")) (cns (dsp mkT (cns (fun _ => pur (.int 0)) (cns (un negD (fun _ => pur (.int 1))) (fun _ => pur [])))) (fun _ => pur []))))) (fun _ => pur []))))))) (fun _ => pur [])) extD))
  (seqS (drop (met (getv 4) (cns (dsp mkL (cns (dsp mkT (cns (fun _ => pur (.int 0)) (cns (fun _ => pur (.str "a")) (cns (dsp mkT (cns (fun _ => pur (.int 0)) (cns (fun _ => pur (.bl true)) (fun _ => pur [])))) (fun _ => pur []))))) (cns (dsp mkT (cns (fun _ => pur (.int 0)) (cns (fun _ => pur (.str "a")) (cns (dsp mkT (cns (fun _ => pur (.int 0)) (cns (dsp mkT (cns (fun _ => pur (.int 2)) (fun _ => pur []))) (fun _ => pur [])))) (fun _ => pur []))))) (cns (dsp mkT (cns (fun _ => pur (.int 0)) (cns (fun _ => pur (.str "a")) (cns (dsp mkT (cns (fun _ => pur (.int 0)) (cns (fun _ => pur (.int 0)) (fun _ => pur [])))) (fun _ => pur []))))) (cns (dsp mkT (cns (fun _ => pur (.int 0)) (cns (fun _ => pur (.str "a")) (cns (dsp mkT (cns (fun _ => pur (.int 0)) (cns (fun _ => pur (.int 1)) (fun _ => pur [])))) (fun _ => pur []))))) (fun _ => pur [])))))) (fun _ => pur [])) extD))
  (seqS (drop (met (getv 4) (cns (dsp mkL (cns (dsp mkT (cns (fun _ => pur (.int 0)) (cns (fun _ => pur (.str "a")) (cns (dsp mkT (cns (fun _ => pur (.int 0)) (cns (fun _ => pur (.int 7)) (fun _ => pur [])))) (fun _ => pur []))))) (cns (dsp mkT (cns (fun _ => pur (.int 0)) (cns (fun _ => pur (.str "c")) (cns (dsp mkT (fun _ => pur [])) (fun _ => pur []))))) (fun _ => pur [])))) (fun _ => pur [])) extD))
  (seqS (drop (met (getv 4) (cns (dsp mkL (cns (dsp mkT (cns (fun _ => pur (.int 0)) (cns (fun _ => pur (.str "a")) (cns (dsp mkT (cns (fun _ => pur (.int 0)) (cns (bin powD (fun _ => pur (.int 10)) (fun _ => pur (.int 59))) (fun _ => pur [])))) (fun _ => pur []))))) (cns (dsp mkT (cns (fun _ => pur (.int 0)) (cns (fun _ => pur (.str "a")) (cns (dsp mkT (cns (bin powD (fun _ => pur (.int 10)) (fun _ => pur (.int 59))) (cns (fun _ => pur (.int 2)) (fun _ => pur [])))) (fun _ => pur []))))) (cns (dsp mkT (cns (fun _ => pur (.int 2)) (cns (fun _ => pur (.str "a")) (cns (dsp mkT (cns (fun _ => pur (.int 0)) (cns (fun _ => pur (.int 2)) (fun _ => pur [])))) (fun _ => pur []))))) (fun _ => pur []))))) (fun _ => pur [])) extD))
  (seqS (drop (met (getv 4) (cns (dsp mkL (cns (dsp mkT (cns (bin powD (fun _ => pur (.int 10)) (fun _ => pur (.int 59))) (cns (fun _ => pur (.str "a")) (cns (dsp mkT (cns (fun _ => pur (.int 0)) (cns (fun _ => pur (.int 2)) (fun _ => pur [])))) (fun _ => pur []))))) (cns (dsp mkT (cns (fun _ => pur (.int 0)) (cns (fun _ => pur (.str "b")) (cns (dsp mkT (cns (fun _ => pur (.int 0)) (cns (fun _ => pur (.int 5)) (cns (fun _ => pur (.int 0)) (fun _ => pur []))))) (fun _ => pur []))))) (fun _ => pur [])))) (fun _ => pur [])) extD))
  (frzV 4 (seqS (forS (itf (getv 4)) (toN 5) (seqS (drop (met (getv 3) (cns (dsp mkL (cns (dsp mkT (cns (getv 0) (cns (getv 1) (cns (bin (addD mkL) (dsp mkT (cns (getv 5) (fun _ => pur []))) (slc (getv 2) (fun env => bd ((fun _ => pur (.int 1)) env) intOf) (fun _ => pur none))) (fun _ => pur []))))) (cns (dsp mkT (cns (getv 0) (cns (getv 1) (cns (dsp mkT (cns (getv 5) (fun _ => pur []))) (fun _ => pur []))))) (fun _ => pur [])))) (fun _ => pur [])) extD))
  (seqS (drop (met (getv 3) (cns (dsp mkT (cns (getv 0) (cns (getv 1) (cns (bin (addD mkL) (bin (addD mkL) (slc (getv 2) (fun _ => pur none) (fun env => bd ((fun _ => pur (.int 1)) env) intOf)) (dsp mkT (cns (getv 5) (fun _ => pur [])))) (slc (getv 2) (fun env => bd ((fun _ => pur (.int 1)) env) intOf) (fun _ => pur none))) (fun _ => pur []))))) (fun _ => pur [])) appD))
  (drop (met (getv 3) (cns (dsp mkT (cns (getv 0) (cns (getv 1) (cns (bin (addD mkL) (bin (addD mkL) (dsp mkT (cns (getv 5) (fun _ => pur []))) (slc (getv 2) (fun env => bd ((fun _ => pur (.int 1)) env) intOf) (fun env => bd ((fun _ => pur (.int 3)) env) intOf))) (dsp mkT (cns (dsp mkT (cns (fun _ => pur (.int 5)) (cns (fun _ => pur (.str "a")) (cns (dsp mkT (cns (fun _ => pur (.int 10)) (cns (fun _ => pur .non) (fun _ => pur [])))) (fun _ => pur []))))) (cns (dsp mkT (cns (fun _ => pur (.int 6)) (cns (fun _ => pur (.str "b")) (cns (dsp mkT (cns (fun _ => pur (.int 9)) (cns (fun _ => pur (.int 4)) (cns (fun _ => pur .non) (fun _ => pur []))))) (fun _ => pur []))))) (fun _ => pur []))))) (fun _ => pur []))))) (fun _ => pur [])) appD)))))
  (seqS (drop (met (getv 3) (cns (dsp mkL (cns (dsp mkT (cns (getv 0) (cns (fun _ => pur (.int 7)) (cns (un revD (getv 2)) (fun _ => pur []))))) (cns (dsp mkT (cns (getv 0) (cns (fun _ => pur (.int 7)) (cns (bin (addD mkL) (getv 2) (slc (getv 2) (fun env => bd ((un negD (fun _ => pur (.int 1))) env) intOf) (fun _ => pur none))) (fun _ => pur []))))) (cns (dsp mkT (cns (getv 0) (cns (fun _ => pur (.int 7)) (cns (slc (getv 2) (fun env => bd ((fun _ => pur (.int 1)) env) intOf) (fun _ => pur none)) (fun _ => pur []))))) (fun _ => pur []))))) (fun _ => pur [])) extD))
  (seqS (drop (met (getv 3) (cns (dsp mkT (cns (getv 0) (cns (fun _ => pur (.int 7)) (cns (bin (addD mkL) (slc (getv 2) (fun _ => pur none) (fun env => bd ((fun _ => pur (.int 1)) env) intOf)) (slc (getv 2) (fun env => bd ((fun _ => pur (.int 2)) env) intOf) (fun _ => pur none))) (fun _ => pur []))))) (fun _ => pur [])) appD))
  (seqS (set 6 (bin (addD mkL) (bin (addD mkL) (slc (getv 2) (fun _ => pur none) (fun env => bd ((fun _ => pur (.int 1)) env) intOf)) (dsp mkT (cns (dsp mkT (cns (fun _ => pur (.int 2)) (cns (fun _ => pur (.str "b")) (cns (dsp mkT (cns (un negD (fun _ => pur (.int 3))) (cns (fun _ => pur (.int 2)) (cns (fun _ => pur (.int 0)) (fun _ => pur []))))) (fun _ => pur []))))) (fun _ => pur [])))) (slc (getv 2) (fun env => bd ((fun _ => pur (.int 2)) env) intOf) (fun _ => pur none))))
  (seqS (drop (met (getv 3) (cns (dsp mkL (cns (dsp mkT (cns (getv 0) (cns (fun _ => pur (.int 7)) (cns (getv 6) (fun _ => pur []))))) (cns (dsp mkT (cns (getv 0) (cns (fun _ => pur (.int 7)) (cns (bin (addD mkL) (slc (getv 6) (fun _ => pur none) (fun env => bd ((un negD (fun _ => pur (.int 1))) env) intOf)) (dsp mkT (cns (dsp mkT (cns (fun _ => pur (.int 6)) (cns (fun _ => pur (.str "b")) (cns (dsp mkT (cns (fun _ => pur (.int 3)) (cns (fun _ => pur (.int 1)) (cns (fun _ => pur .non) (fun _ => pur []))))) (fun _ => pur []))))) (fun _ => pur [])))) (fun _ => pur []))))) (fun _ => pur [])))) (fun _ => pur [])) extD))
  (seqS (drop (met (getv 3) (cns (dsp mkT (cns (getv 0) (cns (fun _ => pur (.int 7)) (cns (bin (addD mkL) (slc (getv 6) (fun _ => pur none) (fun env => bd ((un negD (fun _ => pur (.int 1))) env) intOf)) (dsp mkT (cns (dsp mkT (cns (fun _ => pur (.int 6)) (cns (fun _ => pur (.str "c")) (cns (dsp mkT (cns (fun _ => pur (.int 1)) (fun _ => pur []))) (fun _ => pur []))))) (fun _ => pur [])))) (fun _ => pur []))))) (fun _ => pur [])) appD))
  (seqS (set 7 (cal (cns (cmp [8] mkL (itr1 (cns (fun _ => pur (.int 60)) (fun _ => pur []))) (toN 8) (fun _ => pur true) (dsp mkT (cns (getv 8) (cns (fun _ => pur (.str "b")) (cns (dsp mkT (cns (fun _ => pur (.int 0)) (cns (fun _ => pur .non) (cns (fun _ => pur (.int 59)) (fun _ => pur []))))) (fun _ => pur [])))))) (fun _ => pur [])) tupleD))
  (seqS (drop (met (getv 3) (cns (dsp mkL (cns (dsp mkT (cns (getv 0) (cns (fun _ => pur (.int 60)) (cns (getv 7) (fun _ => pur []))))) (cns (dsp mkT (cns (getv 0) (cns (fun _ => pur (.int 59)) (cns (getv 7) (fun _ => pur []))))) (cns (dsp mkT (cns (getv 0) (cns (fun _ => pur (.int 60)) (cns (bin (addD mkL) (slc (getv 7) (fun _ => pur none) (fun env => bd ((fun _ => pur (.int 59)) env) intOf)) (dsp mkT (cns (dsp mkT (cns (fun _ => pur (.int 59)) (cns (fun _ => pur (.str "b")) (cns (dsp mkT (cns (fun _ => pur (.int 0)) (cns (fun _ => pur .non) (cns (fun _ => pur (.int 60)) (fun _ => pur []))))) (fun _ => pur []))))) (fun _ => pur [])))) (fun _ => pur []))))) (fun _ => pur []))))) (fun _ => pur [])) extD))
  (seqS (drop (met (getv 3) (cns (dsp mkT (cns (getv 0) (cns (fun _ => pur (.int 60)) (cns (bin (addD mkL) (slc (getv 7) (fun _ => pur none) (fun env => bd ((fun _ => pur (.int 59)) env) intOf)) (dsp mkT (cns (dsp mkT (cns (fun _ => pur (.int 59)) (cns (fun _ => pur (.str "b")) (cns (dsp mkT (cns (fun _ => pur (.int 4)) (cns (fun _ => pur .non) (cns (fun _ => pur (.int 0)) (fun _ => pur []))))) (fun _ => pur []))))) (fun _ => pur [])))) (fun _ => pur []))))) (fun _ => pur [])) appD))
  (frzV 3 (ret (bin (addD mkL) (getv 3) (dsp mkL (cns (dsp mkT (cns (getv 0) (cns (fun _ => pur (.int 60)) (cns (bin (addD mkL) (slc (getv 7) (fun _ => pur none) (fun env => bd ((fun _ => pur (.int 59)) env) intOf)) (dsp mkT (cns (dsp mkT (cns (fun _ => pur (.int 58)) (cns (fun _ => pur (.str "c")) (cns (dsp mkT (fun _ => pur [])) (fun _ => pur []))))) (fun _ => pur [])))) (fun _ => pur []))))) (fun _ => pur []))))))))))))))))))))))))))))))
def g_law_by_hand : List D → M D := bodyD 9 0 b_law_by_hand
def b_law_ordered : Fx.Env → MS := (seqS (set 1 (cal (cns (getv 0) (fun _ => pur [])) dictD))
  (ret (cal (cns (cmp [2] mkL (itf (cal (cns (getv 1) (fun _ => pur [])) (sortedD mkL))) (toN 2) (fun _ => pur true) (dsp mkT (cns (getv 2) (cns (bin dgetD (getv 1) (getv 2)) (fun _ => pur []))))) (fun _ => pur [])) tupleD)))
def g_law_ordered : List D → M D := bodyD 3 1 b_law_ordered
def b_law_schema : Fx.Env → MS := (seqS (asg (dsp mkT (cns (dsp mkN (cns (fun _ => pur (.str "a")) (cns (fun _ => pur (.str "box")) (cns (fun _ => pur (.str "get")) (cns (fun _ => pur (.str "lid")) (cns (fun _ => pur (.str "zzzzzzzz")) (fun _ => pur []))))))) (cns (dsp mkN (fun _ => pur [])) (fun _ => pur [])))) (toTup (toCons (toN 1) (toCons (toN 2) toNil))))
  (seqS (set 3 (cal (cns (cmp [4] mkL (itr1 (cns (bin (addD mkL) (fun _ => pur (.int 1)) (cal (cns (getv 0) (cns (fun _ => pur (.int 3)) (fun _ => pur []))) g_law_draw)) (fun _ => pur []))) (toN 4) (fun _ => pur true) (met (getv 1) (cns (cal (cns (getv 0) (cns (cal (cns (getv 1) (fun _ => pur [])) lenD) (fun _ => pur []))) g_law_draw) (fun _ => pur [])) popD)) (fun _ => pur [])) (sortedD mkL)))
  (seqS (forS (itf (getv 3)) (toN 5) (seqS (par 6 7 (cns (dsp mkN (cns (fun _ => pur (.str "a")) (cns (fun _ => pur (.str "if")) (cns (fun _ => pur (.str "lid")) (cns (fun _ => pur (.str "none")) (cns (fun _ => pur (.str "of")) (cns (fun _ => pur (.str "size")) (cns (fun _ => pur (.str "x")) (fun _ => pur []))))))))) (cns (dsp mkN (fun _ => pur [])) (fun _ => pur []))))
  (seqS (forS (itr1 (cns (cal (cns (getv 0) (cns (fun _ => pur (.int 5)) (fun _ => pur []))) g_law_draw) (fun _ => pur []))) (toN 4) (seqS (set 8 (met (getv 6) (cns (cal (cns (getv 0) (cns (cal (cns (getv 6) (fun _ => pur [])) lenD) (fun _ => pur []))) g_law_draw) (fun _ => pur [])) popD))
  (seqS (set 9 (bin ixD (dsp mkL (cns (fun _ => pur (.int 0)) (cns (fun _ => pur (.int 0)) (cns (un negD (fun _ => pur (.int 3))) (cns (fun _ => pur (.int 5)) (cns (un negD (fun _ => pur (.int 1000))) (cns (fun _ => pur (.int 990)) (fun _ => pur [])))))))) (cal (cns (getv 0) (cns (fun _ => pur (.int 6)) (fun _ => pur []))) g_law_draw)))
  (seqS (set 10 (dsp mkT (cns (getv 9) (cns (bin (addD mkL) (getv 9) (bin ixD (dsp mkL (cns (fun _ => pur (.int 0)) (cns (fun _ => pur (.int 1)) (cns (fun _ => pur (.int 3)) (cns (fun _ => pur (.int 9)) (fun _ => pur [])))))) (cal (cns (getv 0) (cns (fun _ => pur (.int 4)) (fun _ => pur []))) g_law_draw))) (fun _ => pur [])))))
  (seqS (ifS (tst (bin eqD (cal (cns (getv 0) (cns (fun _ => pur (.int 2)) (fun _ => pur []))) g_law_draw) (fun _ => pur (.int 0)))) (set 10 (bin ixD (getv 3) (cal (cns (getv 0) (cns (cal (cns (getv 3) (fun _ => pur [])) lenD) (fun _ => pur []))) g_law_draw))) pass)
  (drop (met (getv 7) (cns (dsp mkT (cns (getv 8) (cns (getv 10) (fun _ => pur [])))) (fun _ => pur [])) appD)))))))
  (drop (met (getv 2) (cns (dsp mkT (cns (getv 5) (cns (cal (cns (getv 7) (fun _ => pur [])) g_law_ordered) (fun _ => pur [])))) (fun _ => pur [])) appD)))))
  (ret (cal (cns (getv 2) (fun _ => pur [])) tupleD)))))
def g_law_schema : List D → M D := bodyD 11 1 b_law_schema
def b_law_odd : Fx.Env → MS := (seqS (set 1 (dsp mkL (cns (fun _ => pur .non) (cns (fun _ => pur (.bl true)) (cns (fun _ => pur (.bl false)) (cns (fun _ => pur (.int 0)) (cns (un negD (fun _ => pur (.int 1))) (cns (fun _ => pur (.int 1)) (cns (fun _ => pur (.str "")) (cns (fun _ => pur (.str "a")) (cns (fun _ => pur (.str "if")) (cns (dsp mkT (fun _ => pur [])) (cns (dsp mkL (fun _ => pur [])) (cns (dsp mkT (cns (fun _ => pur (.str "self")) (fun _ => pur []))) (cns (dsp mkT (cns (fun _ => pur (.str "none")) (fun _ => pur []))) (cns (dsp mkT (cns (fun _ => pur (.str "x")) (fun _ => pur []))) (cns (fun _ => pur (.str "X")) (cns (dsp mkT (cns (fun _ => pur (.str "not")) (cns (fun _ => pur (.int 1)) (fun _ => pur [])))) (cns (dsp mkT (cns (fun _ => pur (.int 0)) (cns (fun _ => pur (.int 1)) (fun _ => pur [])))) (fun _ => pur []))))))))))))))))))))
  (ret (bin ixD (getv 1) (cal (cns (getv 0) (cns (fun _ => pur (.int 17)) (fun _ => pur []))) g_law_draw))))
def g_law_odd : List D → M D := bodyD 2 1 b_law_odd
def b_law_bent (g : List D → M D) : Fx.Env → MS := (seqS (ifS (andB (tst (isi "tuple" (getv 1))) (andB (tst (bin neD (getv 1) (dsp mkT (fun _ => pur [])))) (tst (bin gtD (cal (cns (getv 0) (cns (fun _ => pur (.int 6)) (fun _ => pur []))) g_law_draw) (fun _ => pur (.int 0)))))) (seqS (set 2 (cal (cns (getv 0) (cns (cal (cns (getv 1) (fun _ => pur [])) lenD) (fun _ => pur []))) g_law_draw))
  (ret (bin (addD mkL) (bin (addD mkL) (slc (getv 1) (fun _ => pur none) (fun env => bd ((getv 2) env) intOf)) (dsp mkT (cns (cal (cns (getv 0) (cns (bin ixD (getv 1) (getv 2)) (fun _ => pur []))) g) (fun _ => pur [])))) (slc (getv 1) (fun env => bd ((bin (addD mkL) (getv 2) (fun _ => pur (.int 1))) env) intOf) (fun _ => pur none))))) pass)
  (seqS (set 3 (cal (cns (getv 0) (cns (fun _ => pur (.int 9)) (fun _ => pur []))) g_law_draw))
  (seqS (ifS (andB (tst (isi "tuple" (getv 1))) (tst (bin ltD (getv 3) (fun _ => pur (.int 7))))) (seqS (set 4 (dsp mkL (cns (cal (cns (getv 1) (fun _ => pur [])) (listD mkL)) (cns (slc (getv 1) (fun env => bd ((fun _ => pur (.int 1)) env) intOf) (fun _ => pur none)) (cns (slc (getv 1) (fun _ => pur none) (fun env => bd ((un negD (fun _ => pur (.int 1))) env) intOf)) (cns (bin (addD mkL) (getv 1) (slc (getv 1) (fun env => bd ((un negD (fun _ => pur (.int 1))) env) intOf) (fun _ => pur none))) (fun _ => pur [])))))))
  (ret (bin ixD (bin (addD mkL) (getv 4) (dsp mkL (cns (un revD (getv 1)) (cns (dsp mkT (cns (getv 1) (fun _ => pur []))) (cns (bin (addD mkL) (getv 1) (dsp mkT (cns (fun _ => pur .non) (fun _ => pur [])))) (fun _ => pur [])))))) (getv 3)))) pass)
  (seqS (ifS (andB (tst (isi "str" (getv 1))) (tst (bin ltD (getv 3) (fun _ => pur (.int 6))))) (ret (bin ixD (dsp mkL (cns (bin (addD mkL) (getv 1) (fun _ => pur (.str "a"))) (cns (slc (getv 1) (fun _ => pur none) (fun env => bd ((un negD (fun _ => pur (.int 1))) env) intOf)) (cns (un upD (getv 1)) (cns (bin (addD mkL) (getv 1) (fun _ => pur (.str " "))) (cns (dsp mkL (cns (getv 1) (fun _ => pur []))) (cns (bin (addD mkL) (getv 1) (fun _ => pur (.str "abcdefgh"))) (fun _ => pur [])))))))) (getv 3))) pass)
  (seqS (ifS (andB (tst (isi "int" (getv 1))) (tst (bin ltD (getv 3) (fun _ => pur (.int 6))))) (ret (bin ixD (dsp mkL (cns (bin (addD mkL) (getv 1) (fun _ => pur (.int 1))) (cns (bin subD (getv 1) (fun _ => pur (.int 1))) (cns (bin eqD (getv 1) (fun _ => pur (.int 1))) (cns (cal (cns (getv 1) (fun _ => pur [])) strD) (cns (bin subD (fun _ => pur (.int 0)) (getv 1)) (cns (dsp mkL (cns (getv 1) (fun _ => pur []))) (fun _ => pur [])))))))) (getv 3))) pass)
  (ret (cal (cns (getv 0) (fun _ => pur [])) g_law_odd)))))))
def g_law_bent : Nat → List D → M D
  | 0 => fun _ => mno
  | k + 1 => bodyD 5 2 (b_law_bent (g_law_bent k))
def fuel_law_bent : Nat := 30
def b_form_of : Fx.Env → MS := (seqS (forS (itf (getv 0)) (toTup (toCons (toN 2) (toCons (toN 3) toNil))) (ifS (tst (bin eqD (getv 2) (getv 1))) (ret (getv 3)) pass))
  (ret (fun _ => pur .non)))
def g_form_of : List D → M D := bodyD 4 2 b_form_of
def b_is_link : Fx.Env → MS := (ret (isi "str" (getv 0)))
def g_is_link : List D → M D := bodyD 1 1 b_is_link
def b_check_links : Fx.Env → MS := (seqS (set 2 (cmd [3, 4, 5] (itf (getv 1)) (toTup (toCons (toN 3) (toCons (toN 4) (toCons (toN 5) toNil)))) (fun _ => pur true) (getv 3) (getv 4)))
  (forS (itEn (cns (getv 1) (fun _ => pur []))) (toTup (toCons (toN 6) (toCons (toTup (toCons (toN 5) (toCons (toN 4) (toCons (toN 7) toNil)))) toNil))) (forS (itEn (cns (cal (cns (getv 0) (cns (getv 4) (fun _ => pur []))) g_form_of) (fun _ => pur []))) (toTup (toCons (toN 8) (toCons (toTup (toCons (toN 5) (toCons (toN 9) toNil))) toNil))) (ifS (andB (tst (cal (cns (getv 9) (fun _ => pur [])) g_is_link)) (andB (tst (bin isntD (bin ixD (getv 7) (getv 8)) (fun _ => pur .non))) (tst (bin neD (get1 (getv 2) (bin ixD (getv 7) (getv 8))) (getv 9))))) (rz2 "InvalidPaper" "word" "at" (cns (fun _ => pur (.str "link")) (cns (dsp mkT (cns (getv 6) (cns (getv 8) (fun _ => pur [])))) (fun _ => pur [])))) pass))))
def g_check_links : List D → M D := bodyD 10 2 b_check_links
def b_ascends : Fx.Env → MS := (ret (cal (cns (cmp [1] mkL (itr1 (cns (bin subD (cal (cns (getv 0) (fun _ => pur [])) lenD) (fun _ => pur (.int 1))) (fun _ => pur []))) (toN 1) (fun _ => pur true) (bin ltD (bin ixD (getv 0) (getv 1)) (bin ixD (getv 0) (bin (addD mkL) (getv 1) (fun _ => pur (.int 1)))))) (fun _ => pur [])) allD))
def g_ascends : List D → M D := bodyD 2 1 b_ascends
def b_is_name : Fx.Env → MS := (seqS (ifS (notB (tst (isi "str" (getv 0)))) (ret (fun _ => pur (.bl false))) pass)
  (ret (andV (chn leD leD (fun _ => pur (.int 1)) (cal (cns (getv 0) (fun _ => pur [])) lenD) (fun _ => pur (.int 8))) (cal (cns (cmp [1] mkL (itf (getv 0)) (toN 1) (fun _ => pur true) (bin (inD false) (getv 1) (fun _ => pur (.str "abcdefghijklmnopqrstuvwxyz")))) (fun _ => pur [])) allD))))
def g_is_name : List D → M D := bodyD 2 1 b_is_name
def b_are_named : Fx.Env → MS := (seqS (ifS (notB (tst (isi "tuple" (getv 0)))) (ret (fun _ => pur (.bl false))) pass)
  (seqS (ifS (notB (tst (cal (cns (cmp [1] mkL (itf (getv 0)) (toN 1) (fun _ => pur true) (andV (isi "tuple" (getv 1)) (bin eqD (cal (cns (getv 1) (fun _ => pur [])) lenD) (fun _ => pur (.int 2))))) (fun _ => pur [])) allD))) (ret (fun _ => pur (.bl false))) pass)
  (seqS (set 2 (cmp [3, 4] mkL (itf (getv 0)) (toTup (toCons (toN 3) (toCons (toN 4) toNil))) (fun _ => pur true) (getv 3)))
  (ret (andV (cal (cns (cmp [3] mkL (itf (getv 2)) (toN 3) (fun _ => pur true) (cal (cns (getv 3) (fun _ => pur [])) g_is_name)) (fun _ => pur [])) allD) (cal (cns (getv 2) (fun _ => pur [])) g_ascends))))))
def g_are_named : List D → M D := bodyD 5 1 b_are_named
def b_links_lead : Fx.Env → MS := (ret (cal (cns (cmp [2, 3] mkL (itf (getv 0)) (toTup (toCons (toN 2) (toCons (toN 3) toNil))) (tst (isi "str" (getv 3))) (bin (inD false) (getv 3) (getv 1))) (fun _ => pur [])) allD))
def g_links_lead : List D → M D := bodyD 4 2 b_links_lead
def b_is_integer : Fx.Env → MS := (ret (andV (isi "int" (getv 0)) (notV (isi "bool" (getv 0)))))
def g_is_integer : List D → M D := bodyD 1 1 b_is_integer
def b_is_range : Fx.Env → MS := (seqS (ifS (orB (notB (tst (isi "tuple" (getv 0)))) (tst (bin neD (cal (cns (getv 0) (fun _ => pur [])) lenD) (fun _ => pur (.int 2))))) (ret (fun _ => pur (.bl false))) pass)
  (ret (andV (cal (cns (bin ixD (getv 0) (fun _ => pur (.int 0))) (fun _ => pur [])) g_is_integer) (andV (cal (cns (bin ixD (getv 0) (fun _ => pur (.int 1))) (fun _ => pur [])) g_is_integer) (bin leD (bin ixD (getv 0) (fun _ => pur (.int 0))) (bin ixD (getv 0) (fun _ => pur (.int 1))))))))
def g_is_range : List D → M D := bodyD 1 1 b_is_range
def b_is_kind : Fx.Env → MS := (ret (orV (cal (cns (getv 0) (fun _ => pur [])) g_is_name) (cal (cns (getv 0) (fun _ => pur [])) g_is_range)))
def g_is_kind : List D → M D := bodyD 1 1 b_is_kind
def b_is_form : Fx.Env → MS := (ret (andV (cal (cns (getv 0) (fun _ => pur [])) g_are_named) (cal (cns (cmp [1, 2] mkL (itf (getv 0)) (toTup (toCons (toN 1) (toCons (toN 2) toNil))) (fun _ => pur true) (cal (cns (getv 2) (fun _ => pur [])) g_is_kind)) (fun _ => pur [])) allD)))
def g_is_form : List D → M D := bodyD 3 1 b_is_form
def b_is_schema : Fx.Env → MS := (seqS (ifS (orB (notB (tst (cal (cns (getv 0) (fun _ => pur [])) g_are_named))) (tst (bin eqD (cal (cns (getv 0) (fun _ => pur [])) lenD) (fun _ => pur (.int 0))))) (ret (fun _ => pur (.bl false))) pass)
  (seqS (ifS (notB (tst (cal (cns (cmp [1, 2] mkL (itf (getv 0)) (toTup (toCons (toN 1) (toCons (toN 2) toNil))) (fun _ => pur true) (cal (cns (getv 2) (fun _ => pur [])) g_is_form)) (fun _ => pur [])) allD))) (ret (fun _ => pur (.bl false))) pass)
  (seqS (set 3 (cmp [4, 1] mkL (itf (getv 0)) (toTup (toCons (toN 4) (toCons (toN 1) toNil))) (fun _ => pur true) (getv 4)))
  (ret (cal (cns (cmp [1, 2] mkL (itf (getv 0)) (toTup (toCons (toN 1) (toCons (toN 2) toNil))) (fun _ => pur true) (cal (cns (getv 2) (cns (getv 3) (fun _ => pur []))) g_links_lead)) (fun _ => pur [])) allD)))))
def g_is_schema : List D → M D := bodyD 5 1 b_is_schema
def b_is_number : Fx.Env → MS := (ret (andV (cal (cns (getv 0) (fun _ => pur [])) g_is_integer) (bin geD (getv 0) (fun _ => pur (.int 0)))))
def g_is_number : List D → M D := bodyD 1 1 b_is_number
def b_is_row : Fx.Env → MS := (seqS (ifS (orB (notB (tst (isi "tuple" (getv 0)))) (tst (bin neD (cal (cns (getv 0) (fun _ => pur [])) lenD) (fun _ => pur (.int 3))))) (ret (fun _ => pur (.bl false))) pass)
  (ret (andV (cal (cns (bin ixD (getv 0) (fun _ => pur (.int 0))) (fun _ => pur [])) g_is_number) (andV (cal (cns (bin ixD (getv 0) (fun _ => pur (.int 1))) (fun _ => pur [])) g_is_name) (isi "tuple" (bin ixD (getv 0) (fun _ => pur (.int 2))))))))
def g_is_row : List D → M D := bodyD 1 1 b_is_row
def b_has_shape : Fx.Env → MS := (seqS (ifS (orB (notB (tst (isi "tuple" (getv 0)))) (tst (bin neD (cal (cns (getv 0) (fun _ => pur [])) lenD) (fun _ => pur (.int 3))))) (ret (fun _ => pur (.bl false))) pass)
  (seqS (asg (getv 0) (toTup (toCons (toN 1) (toCons (toN 2) (toCons (toN 3) toNil)))))
  (seqS (ifS (orB (notB (tst (cal (cns (getv 1) (fun _ => pur [])) g_is_schema))) (orB (notB (tst (cal (cns (getv 2) (fun _ => pur [])) g_is_number))) (notB (tst (isi "tuple" (getv 3)))))) (ret (fun _ => pur (.bl false))) pass)
  (ret (cal (cns (cmp [4] mkL (itf (getv 3)) (toN 4) (fun _ => pur true) (cal (cns (getv 4) (fun _ => pur [])) g_is_row)) (fun _ => pur [])) allD)))))
def g_has_shape : List D → M D := bodyD 5 1 b_has_shape
def b_in_range : Fx.Env → MS := (ret (andV (cal (cns (getv 1) (fun _ => pur [])) g_is_integer) (chn leD leD (bin ixD (getv 0) (fun _ => pur (.int 0))) (getv 1) (bin ixD (getv 0) (fun _ => pur (.int 1))))))
def g_in_range : List D → M D := bodyD 2 2 b_in_range
def b_could_suit : Fx.Env → MS := (seqS (ifS (tst (cal (cns (getv 0) (fun _ => pur [])) g_is_link)) (ret (orV (bin isD (getv 1) (fun _ => pur .non)) (cal (cns (getv 1) (fun _ => pur [])) g_is_number))) pass)
  (ret (cal (cns (getv 0) (cns (getv 1) (fun _ => pur []))) g_in_range)))
def g_could_suit : List D → M D := bodyD 2 2 b_could_suit
def b_check_object : Fx.Env → MS := (seqS (asg (getv 2) (toTup (toCons (toN 3) (toCons (toN 4) (toCons (toN 5) toNil)))))
  (seqS (set 6 (cal (cns (getv 0) (cns (getv 4) (fun _ => pur []))) g_form_of))
  (seqS (ifS (tst (bin isD (getv 6) (fun _ => pur .non))) (rz2 "InvalidPaper" "word" "at" (cns (fun _ => pur (.str "class")) (cns (getv 1) (fun _ => pur [])))) pass)
  (seqS (ifS (tst (bin neD (cal (cns (getv 5) (fun _ => pur [])) lenD) (cal (cns (getv 6) (fun _ => pur [])) lenD))) (rz2 "InvalidPaper" "word" "at" (cns (fun _ => pur (.str "many")) (cns (getv 1) (fun _ => pur [])))) pass)
  (forS (itEn (cns (getv 6) (fun _ => pur []))) (toTup (toCons (toN 7) (toCons (toTup (toCons (toN 3) (toCons (toN 8) toNil))) toNil))) (ifS (notB (tst (cal (cns (getv 8) (cns (bin ixD (getv 5) (getv 7)) (fun _ => pur []))) g_could_suit))) (rz2 "InvalidPaper" "word" "at" (cns (fun _ => pur (.str "value")) (cns (dsp mkT (cns (getv 1) (cns (getv 7) (fun _ => pur [])))) (fun _ => pur [])))) pass))))))
def g_check_object : List D → M D := bodyD 9 3 b_check_object
def b_lets_plain : Fx.Env → MS := (seqS (ifS (notB (tst (cal (cns (getv 0) (fun _ => pur [])) g_has_shape))) (rz2 "InvalidPaper" "word" "at" (cns (fun _ => pur (.str "shape")) (cns (un negD (fun _ => pur (.int 1))) (fun _ => pur [])))) pass)
  (seqS (asg (getv 0) (toTup (toCons (toN 1) (toCons (toN 2) (toCons (toN 3) toNil)))))
  (seqS (set 4 (un negD (fun _ => pur (.int 1))))
  (seqS (forS (itEn (cns (getv 3) (fun _ => pur []))) (toTup (toCons (toN 5) (toCons (toN 6) toNil))) (seqS (ifS (notB (tst (chn ltD ltD (getv 4) (bin ixD (getv 6) (fun _ => pur (.int 0))) (getv 2)))) (rz2 "InvalidPaper" "word" "at" (cns (fun _ => pur (.str "number")) (cns (getv 5) (fun _ => pur [])))) pass)
  (seqS (drop (cal (cns (getv 1) (cns (getv 5) (cns (getv 6) (fun _ => pur [])))) g_check_object))
  (set 4 (bin ixD (getv 6) (fun _ => pur (.int 0)))))))
  (seqS (drop (cal (cns (getv 1) (cns (getv 3) (fun _ => pur []))) g_check_links))
  (ret (dsp mkT (cns (cal (cns (getv 1) (fun _ => pur [])) lenD) (cns (cal (cns (getv 3) (fun _ => pur [])) lenD) (fun _ => pur []))))))))))
def g_lets_plain : List D → M D := bodyD 7 1 b_lets_plain
def b_is_plain : Fx.Env → MS := (seqS (tryO tabs_InvalidPaper (drop (cal (cns (getv 0) (fun _ => pur [])) g_lets_plain)) (ret (fun _ => pur (.bl false))))
  (ret (fun _ => pur (.bl true))))
def g_is_plain : List D → M D := bodyD 1 1 b_is_plain
def b_law_rises : Fx.Env → MS := (ret (bin eqD (cmp [1] mkL (itr2 (cns (fun _ => pur (.int 1)) (cns (cal (cns (getv 0) (fun _ => pur [])) lenD) (fun _ => pur [])))) (toN 1) (tst (bin geD (bin ixD (getv 0) (bin subD (getv 1) (fun _ => pur (.int 1)))) (bin ixD (getv 0) (getv 1)))) (getv 1)) (dsp mkL (fun _ => pur []))))
def g_law_rises : List D → M D := bodyD 2 1 b_law_rises
def b_law_named : Fx.Env → MS := (seqS (ifS (orB (notB (tst (isi "str" (getv 0)))) (notB (tst (chn ltD ltD (fun _ => pur (.int 0)) (cal (cns (getv 0) (fun _ => pur [])) lenD) (fun _ => pur (.int 9)))))) (ret (fun _ => pur (.bl false))) pass)
  (ret (bin eqD (cmp [1] mkL (itf (getv 0)) (toN 1) (notB (tst (chn leD leD (fun _ => pur (.int 97)) (cal (cns (getv 1) (fun _ => pur [])) ordD) (fun _ => pur (.int 122))))) (getv 1)) (dsp mkL (fun _ => pur [])))))
def g_law_named : List D → M D := bodyD 2 1 b_law_named
def b_law_pairs_of : Fx.Env → MS := (seqS (ifS (notB (tst (isi "tuple" (getv 0)))) (ret (fun _ => pur (.bl false))) pass)
  (seqS (forS (itf (getv 0)) (toN 1) (ifS (orB (notB (tst (isi "tuple" (getv 1)))) (orB (tst (bin neD (cal (cns (getv 1) (fun _ => pur [])) lenD) (fun _ => pur (.int 2)))) (notB (tst (cal (cns (bin ixD (getv 1) (fun _ => pur (.int 0))) (fun _ => pur [])) g_law_named))))) (ret (fun _ => pur (.bl false))) pass))
  (ret (cal (cns (cmp [1] mkL (itf (getv 0)) (toN 1) (fun _ => pur true) (bin ixD (getv 1) (fun _ => pur (.int 0)))) (fun _ => pur [])) g_law_rises))))
def g_law_pairs_of : List D → M D := bodyD 2 1 b_law_pairs_of
def b_law_integer : Fx.Env → MS := (ret (andV (isi "int" (getv 0)) (notV (isi "bool" (getv 0)))))
def g_law_integer : List D → M D := bodyD 1 1 b_law_integer
def b_law_kinded : Fx.Env → MS := (seqS (ifS (tst (isi "str" (getv 0))) (ret (cal (cns (getv 0) (fun _ => pur [])) g_law_named)) pass)
  (seqS (ifS (orB (notB (tst (isi "tuple" (getv 0)))) (orB (tst (bin neD (cal (cns (getv 0) (fun _ => pur [])) lenD) (fun _ => pur (.int 2)))) (notB (tst (cal (cns (bin ixD (getv 0) (fun _ => pur (.int 0))) (fun _ => pur [])) g_law_integer))))) (ret (fun _ => pur (.bl false))) pass)
  (ret (andV (cal (cns (bin ixD (getv 0) (fun _ => pur (.int 1))) (fun _ => pur [])) g_law_integer) (bin leD (bin ixD (getv 0) (fun _ => pur (.int 0))) (bin ixD (getv 0) (fun _ => pur (.int 1))))))))
def g_law_kinded : List D → M D := bodyD 1 1 b_law_kinded
def b_law_formed : Fx.Env → MS := (ret (andV (cal (cns (getv 0) (fun _ => pur [])) g_law_pairs_of) (bin eqD (cmp [1] mkL (itf (getv 0)) (toN 1) (notB (tst (cal (cns (bin ixD (getv 1) (fun _ => pur (.int 1))) (fun _ => pur [])) g_law_kinded))) (getv 1)) (dsp mkL (fun _ => pur [])))))
def g_law_formed : List D → M D := bodyD 2 1 b_law_formed
def b_law_schemed : Fx.Env → MS := (seqS (ifS (orB (notB (tst (cal (cns (getv 0) (fun _ => pur [])) g_law_pairs_of))) (tst (bin eqD (getv 0) (dsp mkT (fun _ => pur []))))) (ret (fun _ => pur (.bl false))) pass)
  (seqS (set 1 (cmp [2] mkL (itf (getv 0)) (toN 2) (fun _ => pur true) (bin ixD (getv 2) (fun _ => pur (.int 0)))))
  (seqS (forS (itf (getv 0)) (toTup (toCons (toN 3) (toCons (toN 4) toNil))) (seqS (ifS (notB (tst (cal (cns (getv 4) (fun _ => pur [])) g_law_formed))) (ret (fun _ => pur (.bl false))) pass)
  (ifS (tst (bin neD (cmp [5, 6] mkL (itf (getv 4)) (toTup (toCons (toN 5) (toCons (toN 6) toNil))) (andB (tst (isi "str" (getv 6))) (tst (bin (inD true) (getv 6) (getv 1)))) (getv 6)) (dsp mkL (fun _ => pur [])))) (ret (fun _ => pur (.bl false))) pass)))
  (ret (fun _ => pur (.bl true))))))
def g_law_schemed : List D → M D := bodyD 7 1 b_law_schemed
def b_law_has_shape : Fx.Env → MS := (seqS (ifS (orB (notB (tst (isi "tuple" (getv 0)))) (orB (tst (bin neD (cal (cns (getv 0) (fun _ => pur [])) lenD) (fun _ => pur (.int 3)))) (notB (tst (cal (cns (bin ixD (getv 0) (fun _ => pur (.int 0))) (fun _ => pur [])) g_law_schemed))))) (ret (fun _ => pur (.bl false))) pass)
  (seqS (ifS (orB (notB (tst (cal (cns (bin ixD (getv 0) (fun _ => pur (.int 1))) (fun _ => pur [])) g_law_integer))) (orB (tst (bin ltD (bin ixD (getv 0) (fun _ => pur (.int 1))) (fun _ => pur (.int 0)))) (notB (tst (isi "tuple" (bin ixD (getv 0) (fun _ => pur (.int 2)))))))) (ret (fun _ => pur (.bl false))) pass)
  (seqS (forS (itf (bin ixD (getv 0) (fun _ => pur (.int 2)))) (toN 1) (seqS (ifS (orB (notB (tst (isi "tuple" (getv 1)))) (orB (tst (bin neD (cal (cns (getv 1) (fun _ => pur [])) lenD) (fun _ => pur (.int 3)))) (orB (notB (tst (cal (cns (bin ixD (getv 1) (fun _ => pur (.int 0))) (fun _ => pur [])) g_law_integer))) (tst (bin ltD (bin ixD (getv 1) (fun _ => pur (.int 0))) (fun _ => pur (.int 0))))))) (ret (fun _ => pur (.bl false))) pass)
  (ifS (orB (notB (tst (cal (cns (bin ixD (getv 1) (fun _ => pur (.int 1))) (fun _ => pur [])) g_law_named))) (notB (tst (isi "tuple" (bin ixD (getv 1) (fun _ => pur (.int 2))))))) (ret (fun _ => pur (.bl false))) pass)))
  (ret (fun _ => pur (.bl true))))))
def g_law_has_shape : List D → M D := bodyD 2 1 b_law_has_shape
def b_law_value_ok : Fx.Env → MS := (seqS (ifS (tst (isi "tuple" (getv 0))) (ret (andV (cal (cns (getv 1) (fun _ => pur [])) g_law_integer) (chn leD leD (bin ixD (getv 0) (fun _ => pur (.int 0))) (getv 1) (bin ixD (getv 0) (fun _ => pur (.int 1)))))) pass)
  (ret (orV (bin isD (getv 1) (fun _ => pur .non)) (andV (cal (cns (getv 1) (fun _ => pur [])) g_law_integer) (bin geD (getv 1) (fun _ => pur (.int 0)))))))
def g_law_value_ok : List D → M D := bodyD 2 2 b_law_value_ok
def b_law_objects_fault : Fx.Env → MS := (seqS (par 1 2 (cns (cal (cns (bin ixD (getv 0) (fun _ => pur (.int 0))) (fun _ => pur [])) dictD) (cns (un negD (fun _ => pur (.int 1))) (fun _ => pur []))))
  (seqS (forS (itr1 (cns (cal (cns (bin ixD (getv 0) (fun _ => pur (.int 2))) (fun _ => pur [])) lenD) (fun _ => pur []))) (toN 3) (seqS (asg (bin ixD (bin ixD (getv 0) (fun _ => pur (.int 2))) (getv 3)) (toTup (toCons (toN 4) (toCons (toN 5) (toCons (toN 6) toNil)))))
  (seqS (ifS (orB (tst (bin leD (getv 4) (getv 2))) (tst (bin geD (getv 4) (bin ixD (getv 0) (fun _ => pur (.int 1)))))) (ret (dsp mkT (cns (fun _ => pur (.str "number")) (cns (getv 3) (fun _ => pur []))))) pass)
  (seqS (ifS (tst (bin (dinD true) (getv 5) (getv 1))) (ret (dsp mkT (cns (fun _ => pur (.str "class")) (cns (getv 3) (fun _ => pur []))))) pass)
  (seqS (ifS (tst (bin neD (cal (cns (getv 6) (fun _ => pur [])) lenD) (cal (cns (bin dgetD (getv 1) (getv 5)) (fun _ => pur [])) lenD))) (ret (dsp mkT (cns (fun _ => pur (.str "many")) (cns (getv 3) (fun _ => pur []))))) pass)
  (seqS (forS (itr1 (cns (cal (cns (getv 6) (fun _ => pur [])) lenD) (fun _ => pur []))) (toN 7) (ifS (notB (tst (cal (cns (bin ixD (bin ixD (bin dgetD (getv 1) (getv 5)) (getv 7)) (fun _ => pur (.int 1))) (cns (bin ixD (getv 6) (getv 7)) (fun _ => pur []))) g_law_value_ok))) (ret (dsp mkT (cns (fun _ => pur (.str "value")) (cns (dsp mkT (cns (getv 3) (cns (getv 7) (fun _ => pur [])))) (fun _ => pur []))))) pass))
  (set 2 (getv 4))))))))
  (ret (fun _ => pur .non))))
def g_law_objects_fault : List D → M D := bodyD 8 1 b_law_objects_fault
def b_law_links_fault : Fx.Env → MS := (seqS (par 1 2 (cns (cal (cns (bin ixD (getv 0) (fun _ => pur (.int 0))) (fun _ => pur [])) dictD) (cns (cal (cns (cmp [3] mkL (itf (bin ixD (getv 0) (fun _ => pur (.int 2)))) (toN 3) (fun _ => pur true) (slc (getv 3) (fun _ => pur none) (fun env => bd ((fun _ => pur (.int 2)) env) intOf))) (fun _ => pur [])) dictD) (fun _ => pur []))))
  (seqS (forS (itr1 (cns (cal (cns (bin ixD (getv 0) (fun _ => pur (.int 2))) (fun _ => pur [])) lenD) (fun _ => pur []))) (toN 4) (seqS (asg (slc (bin ixD (bin ixD (getv 0) (fun _ => pur (.int 2))) (getv 4)) (fun env => bd ((fun _ => pur (.int 1)) env) intOf) (fun _ => pur none)) (toTup (toCons (toN 5) (toCons (toN 6) toNil))))
  (forS (itr1 (cns (cal (cns (getv 6) (fun _ => pur [])) lenD) (fun _ => pur []))) (toN 7) (seqS (set 8 (bin ixD (bin ixD (bin dgetD (getv 1) (getv 5)) (getv 7)) (fun _ => pur (.int 1))))
  (ifS (andB (tst (isi "str" (getv 8))) (andB (tst (bin isntD (bin ixD (getv 6) (getv 7)) (fun _ => pur .non))) (tst (bin neD (get1 (getv 2) (bin ixD (getv 6) (getv 7))) (getv 8))))) (ret (dsp mkT (cns (fun _ => pur (.str "link")) (cns (dsp mkT (cns (getv 4) (cns (getv 7) (fun _ => pur [])))) (fun _ => pur []))))) pass)))))
  (ret (fun _ => pur .non))))
def g_law_links_fault : List D → M D := bodyD 9 1 b_law_links_fault
def b_law_right : Fx.Env → MS := (seqS (set 1 (iteV (tst (cal (cns (getv 0) (fun _ => pur [])) g_law_has_shape)) (fun _ => pur .non) (dsp mkT (cns (fun _ => pur (.str "shape")) (cns (un negD (fun _ => pur (.int 1))) (fun _ => pur []))))))
  (seqS (ifS (tst (bin isD (getv 1) (fun _ => pur .non))) (set 1 (cal (cns (getv 0) (fun _ => pur [])) g_law_objects_fault)) pass)
  (seqS (ifS (tst (bin isD (getv 1) (fun _ => pur .non))) (set 1 (cal (cns (getv 0) (fun _ => pur [])) g_law_links_fault)) pass)
  (seqS (set 2 (iteV (tst (bin isD (getv 1) (fun _ => pur .non))) (dsp mkT (cns (fun _ => pur (.str "told")) (cns (dsp mkT (cns (cal (cns (bin ixD (getv 0) (fun _ => pur (.int 0))) (fun _ => pur [])) lenD) (cns (cal (cns (bin ixD (getv 0) (fun _ => pur (.int 2))) (fun _ => pur [])) lenD) (fun _ => pur [])))) (fun _ => pur [])))) (bin (addD mkL) (dsp mkT (cns (fun _ => pur (.str "paper")) (fun _ => pur []))) (getv 1))))
  (seqS (ifS (tst (bin neD (cal (cns (fun env => heardM "told" tabs_LateError qf_law_heard ((cal (cns (getv 0) (fun _ => pur [])) g_lets_plain) env)) (fun _ => pur [])) reprD) (cal (cns (getv 2) (fun _ => pur [])) reprD))) (ret (fun _ => pur (.bl false))) pass)
  (ret (bin eqD (cal (cns (cal (cns (getv 0) (fun _ => pur [])) g_is_plain) (fun _ => pur [])) reprD) (cal (cns (bin isD (getv 1) (fun _ => pur .non)) (fun _ => pur [])) reprD))))))))
def g_law_right : List D → M D := bodyD 3 1 b_law_right
def b_law : Fx.Env → MS := (seqS (set 1 (cal (cns (getv 0) (fun _ => pur [])) g_law_feed))
  (seqS (set 2 (bin (addD mkN) (stp (fun _ => g_law_by_hand []) (fun env => bd ((cal (cns (getv 1) (cns (fun _ => pur (.int 5)) (fun _ => pur []))) g_law_draw) env) intOf) (fun _ => pur none) (fun env => bd ((fun _ => pur (.int 5)) env) intOf)) (dsp mkL (cns (fun _ => pur (.int 0)) (cns (fun _ => pur (.str "")) (cns (fun _ => pur (.bl true)) (cns (cmp [3] mkL (itf (fun _ => g_law_base [])) (toN 3) (fun _ => pur true) (getv 3)) (fun _ => pur []))))))))
  (seqS (forS (itr1 (cns (fun _ => pur (.int 2)) (fun _ => pur []))) (toN 4) (seqS (set 5 (cal (cns (getv 1) (cns (cal (cns (getv 1) (fun _ => pur [])) g_law_schema) (fun _ => pur []))) g_law_store))
  (seqS (drop (met (getv 2) (cns (getv 5) (fun _ => pur [])) appD))
  (forS (itr1 (cns (fun _ => pur (.int 4)) (fun _ => pur []))) (toN 6) (seqS (set 7 (cal (cns (getv 1) (cns (getv 5) (fun _ => pur []))) (g_law_bent fuel_law_bent)))
  (seqS (drop (met (getv 2) (cns (dsp mkL (cns (getv 7) (cns (cal (cns (getv 1) (cns (getv 7) (fun _ => pur []))) (g_law_bent fuel_law_bent)) (fun _ => pur [])))) (fun _ => pur [])) extD))
  (drop (met (getv 2) (cns (dsp mkT (cns (bin ixD (getv 5) (fun _ => pur (.int 0))) (cns (bin ixD (getv 5) (fun _ => pur (.int 1))) (cns (cal (cns (getv 1) (cns (bin ixD (getv 5) (fun _ => pur (.int 2))) (fun _ => pur []))) (g_law_bent fuel_law_bent)) (fun _ => pur []))))) (fun _ => pur [])) appD))))))))
  (frzV 2 (seqS (set 8 (cal (cns (getv 2) (fun _ => pur [])) reprD))
  (seqS (ifS (orB (tst (bin neD (cmp [9] mkL (itf (getv 2)) (toN 9) (notB (tst (cal (cns (getv 9) (fun _ => pur [])) g_law_right))) (getv 9)) (dsp mkL (fun _ => pur [])))) (tst (bin neD (cal (cns (getv 2) (fun _ => pur [])) reprD) (getv 8)))) (ret (fun _ => pur (.bl false))) pass)
  (ret (bin eqD (cal (cns (dsp mkL (cns (calK 1 [0] (cns (fun _ => g_law_base []) (fun _ => pur [])) g_lets_plain) (cns (calK 1 [0] (cns (fun _ => g_law_base []) (fun _ => pur [])) g_is_plain) (fun _ => pur [])))) (fun _ => pur [])) reprD) (cal (cns (dsp mkL (cns (dsp mkT (cns (fun _ => pur (.int 3)) (cns (fun _ => pur (.int 5)) (fun _ => pur [])))) (cns (fun _ => pur (.bl true)) (fun _ => pur [])))) (fun _ => pur [])) reprD)))))))))
def g_law : List D → M D := bodyD 10 1 b_law

section
variable {P : Program} {w : World} {K : PySem.W.Frag} {mg : Str → Option Value} {base : Heap}
abbrev N_law_feed : List Str := ["_law_script"]
theorem sc_law_feed : FnScope ["_law_script"] ["_law_script"] (defScope s_law_feed) := ⟨rfl, rfl, rfl, by decide +kernel, rfl, by decide +kernel, by decide +kernel⟩
theorem ok_law_feed (T : Tx K mg base) : GAt false P w K mg base 1 "_law_feed" s_law_feed ["_law_script"] g_law_feed := g_at T.d_law_feed sc_law_feed fun f cd A outer s H E hcd hG hr => by
    have nd := sc_law_feed.nd
    exact (fss_one (fs_ret (fe_dict (fp_cons pe_str (fe_callT (cf_list mk_L) rfl T.b_list bo_list (fa_cons (fe_slice (fe_var 0) fo_none (fo_some fe_int)) fa_nil)) (fp_cons pe_str fe_int (fp_cons pe_str fe_int (fp_cons pe_str fe_int fp_nil)))) rfl rfl (by simp) (by decide) (by decide))))
abbrev N_law_draw : List Str := ["_law_feed_here", "_law_many", "_law_digit", "_law_spot", "_law_cell", "_law_mixed"]
theorem sc_law_draw : FnScope ["_law_feed_here", "_law_many", "_law_digit", "_law_spot", "_law_cell", "_law_mixed"] ["_law_feed_here", "_law_many"] (defScope s_law_draw) := ⟨rfl, rfl, rfl, by decide +kernel, rfl, by decide +kernel, by decide +kernel⟩
theorem ok_law_draw (T : Tx K mg base) : GAt false P w K mg base 1 "_law_draw" s_law_draw ["_law_feed_here", "_law_many"] g_law_draw := g_at T.d_law_draw sc_law_draw fun f cd A outer s H E hcd hG hr => by
    have nd := sc_law_draw.nd
    exact (fss_cons (fs_dput (hu1 hr) (fe_var 0) fe_str (fe_bin (of_add mk_L) (fe_dget (hu1 hr) (fe_var 0) fe_str (by intro _ _; rfl)) fe_int) (by rfl))
      (fss_cons (fs_if (ft_cmp of_gt (fe_dget (hu1 hr) (fe_var 0) fe_str (by intro _ _; rfl)) fe_int (by rfl)) (fss_cons (fs_set (i := 2) nd rfl (by first | exact Or.inl rfl | exact Or.inr rfl) (fe_bin of_mod (fe_callT cf_int rfl T.b_int bo_int (fa_cons (fe_dget (hu1 hr) (fe_var 0) fe_str (by intro _ _; rfl)) fa_nil)) (fe_var 1)))
      (fss_cons (fs_dput (hu1 hr) (fe_var 0) fe_str (fe_bin of_fdiv (fe_dget (hu1 hr) (fe_var 0) fe_str (by intro _ _; rfl)) (fe_var 1)) (by rfl))
      (fss_one (fs_ret (fe_var 2))))) fss_nil)
      (fss_cons (fs_set (i := 3) nd rfl (by first | exact Or.inl rfl | exact Or.inr rfl) (fe_dget (hu1 hr) (fe_var 0) fe_str (by intro _ _; rfl)))
      (fss_cons (fs_dput (hu1 hr) (fe_var 0) fe_str (fe_bin (of_add mk_L) (fe_var 3) fe_int) (by rfl))
      (fss_cons (fs_set (i := 4) nd rfl (by first | exact Or.inl rfl | exact Or.inr rfl) (fe_ite (ft_cmp (of_ne (hu64 hr)) (fe_dget (hu1 hr) (fe_var 0) fe_str (by intro _ _; rfl)) (fe_lst fa_nil) (by rfl)) (fe_ix (fe_dget (hu1 hr) (fe_var 0) fe_str (by intro _ _; rfl)) (fe_bin of_mod (fe_callT cf_int rfl T.b_int bo_int (fa_cons (fe_var 3) fa_nil)) (fe_callB cf_len rfl T.b_len bo_len (fa_cons (fe_dget (hu1 hr) (fe_var 0) fe_str (by intro _ _; rfl)) fa_nil))) (by intro _ _; rfl)) fe_int))
      (fss_cons (fs_if (FW.ft (fw_and (ft_cmp of_ge (fe_var 4) (fe_bin of_pow fe_int fe_int) (by rfl)) (fw_and1 (ft_cmp of_lt (fe_var 3) (fe_callB cf_len rfl T.b_len bo_len (fa_cons (fe_dget (hu1 hr) (fe_var 0) fe_str (by intro _ _; rfl)) fa_nil)) (by rfl))))) (fss_cons (fs_dput (hu1 hr) (fe_var 0) fe_str (fe_bin of_fdiv (fe_var 4) (fe_var 1)) (by rfl))
      (fss_one (fs_ret (fe_bin of_mod (fe_callT cf_int rfl T.b_int bo_int (fa_cons (fe_var 4) fa_nil)) (fe_var 1))))) fss_nil)
      (fss_cons (fs_set (i := 5) nd rfl (by first | exact Or.inl rfl | exact Or.inr rfl) (fe_bin of_mod (fe_callT cf_int rfl T.b_int bo_int (fa_cons (fe_bin (of_add mk_L) (fe_bin (of_add mk_L) (fe_bin of_mod (fe_callT cf_int rfl T.b_int bo_int (fa_cons (fe_var 4) fa_nil)) fe_int) (fe_bin of_mul fe_int (fe_dget (hu1 hr) (fe_var 0) fe_str (by intro _ _; rfl)))) fe_int) fa_nil)) fe_int))
      (fss_cons (fs_set (i := 5) nd rfl (by first | exact Or.inl rfl | exact Or.inr rfl) (fe_bin of_mod (fe_callT cf_int rfl T.b_int bo_int (fa_cons (fe_bin (of_add mk_L) (fe_bin (of_add mk_L) (fe_bin of_mul (fe_var 5) (fe_var 5)) (fe_bin of_mul fe_int (fe_dget (hu1 hr) (fe_var 0) fe_str (by intro _ _; rfl)))) fe_int) fa_nil)) fe_int))
      (fss_one (fs_ret (fe_bin of_mod (fe_callT cf_int rfl T.b_int bo_int (fa_cons (fe_bin of_fdiv (fe_bin of_mod (fe_callT cf_int rfl T.b_int bo_int (fa_cons (fe_bin (of_add mk_L) (fe_bin of_mul (fe_var 5) (fe_var 5)) (fe_bin of_mul fe_int (fe_var 5))) fa_nil)) fe_int) fe_int) fa_nil)) (fe_var 1))))))))))))
abbrev N_law_value : List Str := ["_law_feed_here", "_law_sort", "_law_heads", "_law_some", "_law_own", "_law_title"]
theorem sc_law_value : FnScope ["_law_feed_here", "_law_sort", "_law_heads", "_law_some", "_law_own", "_law_title"] ["_law_feed_here", "_law_sort", "_law_heads"] (defScope s_law_value) := ⟨rfl, rfl, rfl, by decide +kernel, rfl, by decide +kernel, by decide +kernel⟩
theorem ok_law_value (T : Tx K mg base) : GAt false P w K mg base 2 "_law_value" s_law_value ["_law_feed_here", "_law_sort", "_law_heads"] g_law_value := g_at T.d_law_value sc_law_value fun f cd A outer s H E hcd hG hr => by
    have nd := sc_law_value.nd
    exact (fss_cons (fs_if (ft_val (fe_isi (T := "tuple") rfl (by decide) rfl T.b_isinstance rfl T.b_tuple bo_tuple bo_isinstance (fe_var 1))) (fss_one (fs_ret (fe_bin (of_add mk_L) (fe_ix (fe_var 1) fe_int (by intro _ _; rfl)) (fe_callD (ok_law_draw T) (fun z => nomatch z) (hr.mono (by decide)) rfl (takes_of rfl rfl rfl rfl) (fa_cons (fe_var 0) (fa_cons (fe_bin (of_add mk_L) (fe_bin of_sub (fe_ix (fe_var 1) fe_int (by intro _ _; rfl)) (fe_ix (fe_var 1) fe_int (by intro _ _; rfl))) fe_int) fa_nil)))))) fss_nil)
      (fss_cons (fs_setLc (i := 3) rfl rfl rfl rfl rfl (own := [("_law_own", 4), ("_law_title", 5)]) kp_L rfl nd (fi_seq (fe_var 2)) (blkOk_by (N := N_law_value) (sc := defScope s_law_value) (by decide +kernel)) (by decide) (fun s2 H2 C2 cl2 fp2 => (fg_tup rfl (fgs_cons (fg_name (i := 4) nd rfl (by first | exact Or.inl rfl | exact Or.inr rfl)) (fgs_cons (fg_name (i := 5) nd rfl (by first | exact Or.inl rfl | exact Or.inr rfl)) fgs_nil)))) (fun s2 H2 C2 cl2 fp2 => pts_if (ft_cmp (of_eq (hu64 hr)) (fe_var 5) (fe_var 1) (by rfl))) (fun s2 H2 C2 cl2 fp2 => (fe_var 4)))
      (fss_one (fs_ret (fe_ite (FW.ft (fw_or (ft_cmp (of_eq (hu64 hr)) (fe_var 3) (fe_lst fa_nil) (by rfl)) (fw_or1 (ft_cmp (of_eq (hu64 hr)) (fe_callD (ok_law_draw T) (fun z => nomatch z) (hr.mono (by decide)) rfl (takes_of rfl rfl rfl rfl) (fa_cons (fe_var 0) (fa_cons fe_int fa_nil))) fe_int (by rfl))))) fe_non (fe_ix (fe_var 3) (fe_callD (ok_law_draw T) (fun z => nomatch z) (hr.mono (by decide)) rfl (takes_of rfl rfl rfl rfl) (fa_cons (fe_var 0) (fa_cons (fe_callB cf_len rfl T.b_len bo_len (fa_cons (fe_var 3) fa_nil)) fa_nil))) (by intro _ _; rfl)))))))
abbrev N_law_store : List Str := ["_law_feed_here", "_law_scheme", "_law_heads", "_law_found", "_law_forms", "_law_own", "_law_title", "_law_slot", "_law_sort", "_law_top"]
theorem sc_law_store : FnScope ["_law_feed_here", "_law_scheme", "_law_heads", "_law_found", "_law_forms", "_law_own", "_law_title", "_law_slot", "_law_sort", "_law_top"] ["_law_feed_here", "_law_scheme"] (defScope s_law_store) := ⟨rfl, rfl, rfl, by decide +kernel, rfl, by decide +kernel, by decide +kernel⟩
theorem ok_law_store (T : Tx K mg base) : GAt false P w K mg base 3 "_law_store" s_law_store ["_law_feed_here", "_law_scheme"] g_law_store := g_at T.d_law_store sc_law_store fun f cd A outer s H E hcd hG hr => by
    have nd := sc_law_store.nd
    exact (fss_cons (fs_asg (fe_tup (fa_cons (fe_new fa_nil) (fa_cons (fe_new fa_nil) (fa_cons (fe_callT (cf_dict rfl) rfl T.b_dict bo_dict (fa_cons (fe_var 1) fa_nil)) fa_nil)))) (fg_tup rfl (fgs_cons (fg_name (i := 2) nd rfl (by first | exact Or.inl rfl | exact Or.inr rfl)) (fgs_cons (fg_name (i := 3) nd rfl (by first | exact Or.inl rfl | exact Or.inr rfl)) (fgs_cons (fg_name (i := 4) nd rfl (by first | exact Or.inl rfl | exact Or.inr rfl)) fgs_nil)))))
      (fss_cons (fs_for (passes_of rfl) rfl (fi_range1 rfl T.b_range (fa_cons fe_int fa_nil)) (fg_name (i := 5) nd rfl (by first | exact Or.inl rfl | exact Or.inr rfl)) (fss_one (fs_if (ft_cmp of_gt (fe_callD (ok_law_draw T) (fun z => nomatch z) (hr.mono (by decide)) rfl (takes_of rfl rfl rfl rfl) (fa_cons (fe_var 0) (fa_cons fe_int fa_nil))) fe_int (by rfl)) (fss_one (fs_expr (fe_append ⟨rfl, rfl, rfl, rfl, rfl⟩ (fe_var 2) (fa_cons (fe_tup (fa_cons (fe_var 5) (fa_cons (fe_ix (fe_ix (fe_var 1) (fe_callD (ok_law_draw T) (fun z => nomatch z) (hr.mono (by decide)) rfl (takes_of rfl rfl rfl rfl) (fa_cons (fe_var 0) (fa_cons (fe_callB cf_len rfl T.b_len bo_len (fa_cons (fe_var 1) fa_nil)) fa_nil))) (by intro _ _; rfl)) fe_int (by intro _ _; rfl)) fa_nil))) fa_nil)))) fss_nil)))
      (fss_frz 2 (fss_cons (fs_for (passes_of rfl) rfl (fi_seq (fe_var 2)) (fg_tup rfl (fgs_cons (fg_name (i := 5) nd rfl (by first | exact Or.inl rfl | exact Or.inr rfl)) (fgs_cons (fg_name (i := 6) nd rfl (by first | exact Or.inl rfl | exact Or.inr rfl)) fgs_nil))) (fss_one (fs_expr (fe_append ⟨rfl, rfl, rfl, rfl, rfl⟩ (fe_var 3) (fa_cons (fe_tup (fa_cons (fe_var 5) (fa_cons (fe_var 6) (fa_cons (fe_callT cf_tuple rfl T.b_tuple bo_tuple (fa_cons (fe_lc (own := [("_law_slot", 7), ("_law_sort", 8)]) kp_L rfl nd (fi_seq (fe_dget (hu1 hr) (fe_var 4) (fe_var 6) (by intro _ _; rfl))) (blkOk_by (N := N_law_store) (sc := defScope s_law_store) (by decide +kernel)) (by decide) (fun s2 H2 C2 cl2 fp2 => (fg_tup rfl (fgs_cons (fg_name (i := 7) nd rfl (by first | exact Or.inl rfl | exact Or.inr rfl)) (fgs_cons (fg_name (i := 8) nd rfl (by first | exact Or.inl rfl | exact Or.inr rfl)) fgs_nil)))) (fun s2 H2 C2 cl2 fp2 => pts_no rfl) (fun s2 H2 C2 cl2 fp2 => (fe_callD (ok_law_value T) (fun z => nomatch z) (hr.mono (by decide)) rfl tk0 (fa_cons (fe_var 0) (fa_cons (fe_var 8) (fa_cons (fe_var 2) fa_nil)))))) fa_nil)) fa_nil)))) fa_nil)))))
      (fss_frz 3 (fss_cons (fs_set (i := 9) nd rfl (by first | exact Or.inl rfl | exact Or.inr rfl) (fe_ite (FW.ft (fw_and (ft_cmp (of_ne (hu64 hr)) (fe_var 2) (fe_lst fa_nil) (by rfl)) (fw_and1 (ft_cmp (of_eq (hu64 hr)) (fe_callD (ok_law_draw T) (fun z => nomatch z) (hr.mono (by decide)) rfl (takes_of rfl rfl rfl rfl) (fa_cons (fe_var 0) (fa_cons fe_int fa_nil))) fe_int (by rfl))))) (fe_bin (of_add mk_L) (fe_ix (fe_ix (fe_var 2) (fe_un of_neg fe_int) (by intro _ _; rfl)) fe_int (by intro _ _; rfl)) fe_int) fe_int))
      (fss_one (fs_ret (fe_tup (fa_cons (fe_var 1) (fa_cons (fe_var 9) (fa_cons (fe_callT cf_tuple rfl T.b_tuple bo_tuple (fa_cons (fe_var 3) fa_nil)) fa_nil))))))))))))
abbrev N_law_base : List Str := ["_law_scheme", "_law_some"]
theorem sc_law_base : FnScope ["_law_scheme", "_law_some"] [] (defScope s_law_base) := ⟨rfl, rfl, rfl, by decide +kernel, rfl, by decide +kernel, by decide +kernel⟩
theorem ok_law_base (T : Tx K mg base) : GAt false P w K mg base 1 "_law_base" s_law_base [] g_law_base := g_at T.d_law_base sc_law_base fun f cd A outer s H E hcd hG hr => by
    have nd := sc_law_base.nd
    exact (fss_cons (fs_set (i := 0) nd rfl (by first | exact Or.inl rfl | exact Or.inr rfl) (fe_tup (fa_cons (fe_tup (fa_cons fe_str (fa_cons (fe_tup (fa_cons (fe_tup (fa_cons fe_str (fa_cons (fe_tup (fa_cons fe_int (fa_cons fe_int fa_nil))) fa_nil))) (fa_cons (fe_tup (fa_cons fe_str (fa_cons fe_str fa_nil))) fa_nil))) fa_nil))) (fa_cons (fe_tup (fa_cons fe_str (fa_cons (fe_tup (fa_cons (fe_tup (fa_cons fe_str (fa_cons (fe_tup (fa_cons (fe_un of_neg fe_int) (fa_cons fe_int fa_nil))) fa_nil))) (fa_cons (fe_tup (fa_cons fe_str (fa_cons fe_str fa_nil))) (fa_cons (fe_tup (fa_cons fe_str (fa_cons fe_str fa_nil))) fa_nil)))) fa_nil))) (fa_cons (fe_tup (fa_cons fe_str (fa_cons (fe_tup fa_nil) fa_nil))) fa_nil)))))
      (fss_cons (fs_set (i := 1) nd rfl (by first | exact Or.inl rfl | exact Or.inr rfl) (fe_tup (fa_cons (fe_tup (fa_cons fe_int (fa_cons fe_str (fa_cons (fe_tup (fa_cons fe_int (fa_cons fe_int fa_nil))) fa_nil)))) (fa_cons (fe_tup (fa_cons fe_int (fa_cons fe_str (fa_cons (fe_tup (fa_cons (fe_un of_neg fe_int) (fa_cons fe_int (fa_cons fe_int fa_nil)))) fa_nil)))) (fa_cons (fe_tup (fa_cons fe_int (fa_cons fe_str (fa_cons (fe_tup fa_nil) fa_nil)))) (fa_cons (fe_tup (fa_cons fe_int (fa_cons fe_str (fa_cons (fe_tup (fa_cons fe_int (fa_cons fe_non fa_nil))) fa_nil)))) (fa_cons (fe_tup (fa_cons fe_int (fa_cons fe_str (fa_cons (fe_tup (fa_cons fe_int (fa_cons fe_int (fa_cons fe_non fa_nil)))) fa_nil)))) fa_nil)))))))
      (fss_one (fs_ret (fe_tup (fa_cons (fe_var 0) (fa_cons fe_int (fa_cons (fe_var 1) fa_nil))))))))
abbrev N_law_by_hand : List Str := ["_law_scheme", "_law_top", "_law_some", "_law_found", "_law_lot", "_law_one", "_law_late", "_law_wide", "_law_k"]
theorem sc_law_by_hand : FnScope ["_law_scheme", "_law_top", "_law_some", "_law_found", "_law_lot", "_law_one", "_law_late", "_law_wide", "_law_k"] [] (defScope s_law_by_hand) := ⟨rfl, rfl, rfl, by decide +kernel, rfl, by decide +kernel, by decide +kernel⟩
theorem ok_law_by_hand (T : Tx K mg base) : GAt false P w K mg base 2 "_law_by_hand" s_law_by_hand [] g_law_by_hand := g_at T.d_law_by_hand sc_law_by_hand fun f cd A outer s H E hcd hG hr => by
    have nd := sc_law_by_hand.nd
    exact (fss_cons (fs_asg (fe_callD0 (ok_law_base T) (fun z => nomatch z) (hr.mono (by decide)) rfl (takes_of rfl rfl rfl rfl)) (fg_tup rfl (fgs_cons (fg_name (i := 0) nd rfl (by first | exact Or.inl rfl | exact Or.inr rfl)) (fgs_cons (fg_name (i := 1) nd rfl (by first | exact Or.inl rfl | exact Or.inr rfl)) (fgs_cons (fg_name (i := 2) nd rfl (by first | exact Or.inl rfl | exact Or.inr rfl)) fgs_nil)))))
      (fss_cons (fs_set (i := 3) nd rfl (by first | exact Or.inl rfl | exact Or.inr rfl) (fe_new (fa_cons (fe_tup (fa_cons (fe_var 0) (fa_cons (fe_var 1) (fa_cons (fe_var 2) fa_nil)))) (fa_cons (fe_tup (fa_cons (fe_var 0) (fa_cons fe_int (fa_cons (fe_var 2) fa_nil)))) (fa_cons (fe_tup (fa_cons (fe_var 0) (fa_cons fe_int (fa_cons (fe_var 2) fa_nil)))) (fa_cons (fe_tup (fa_cons (fe_var 0) (fa_cons fe_int (fa_cons (fe_tup fa_nil) fa_nil)))) (fa_cons (fe_tup (fa_cons (fe_var 0) (fa_cons fe_int (fa_cons (fe_slice (fe_var 2) fo_none (fo_some fe_int)) fa_nil)))) fa_nil)))))))
      (fss_cons (fs_expr (fe_extend ⟨rfl, rfl, rfl, rfl, rfl⟩ (fe_var 3) (fa_cons (fe_lst (fa_cons (fe_tup (fa_cons (fe_var 0) (fa_cons (fe_un of_neg fe_int) (fa_cons (fe_tup fa_nil) fa_nil)))) (fa_cons (fe_tup (fa_cons (fe_var 0) (fa_cons fe_bl (fa_cons (fe_tup fa_nil) fa_nil)))) (fa_cons (fe_tup (fa_cons (fe_var 0) (fa_cons fe_non (fa_cons (fe_tup fa_nil) fa_nil)))) (fa_cons (fe_tup (fa_cons (fe_var 0) (fa_cons fe_int fa_nil))) (fa_cons (fe_tup (fa_cons (fe_var 0) (fa_cons fe_int (fa_cons (fe_var 2) (fa_cons (fe_tup fa_nil) fa_nil))))) fa_nil)))))) fa_nil)))
      (fss_cons (fs_expr (fe_extend ⟨rfl, rfl, rfl, rfl, rfl⟩ (fe_var 3) (fa_cons (fe_lst (fa_cons fe_non (fa_cons (fe_tup fa_nil) fa_nil))) fa_nil)))
      (fss_cons (fs_expr (fe_extend ⟨rfl, rfl, rfl, rfl, rfl⟩ (fe_var 3) (fa_cons (fe_lst (fa_cons (fe_tup (fa_cons (fe_tup fa_nil) (fa_cons fe_int (fa_cons (fe_tup fa_nil) fa_nil)))) (fa_cons (fe_tup (fa_cons (fe_slice (fe_var 0) fo_none (fo_some fe_int)) (fa_cons fe_int (fa_cons (fe_var 2) fa_nil)))) (fa_cons (fe_tup (fa_cons (fe_revT (fe_var 0)) (fa_cons fe_int (fa_cons (fe_var 2) fa_nil)))) fa_nil)))) fa_nil)))
      (fss_cons (fs_expr (fe_extend ⟨rfl, rfl, rfl, rfl, rfl⟩ (fe_var 3) (fa_cons (fe_lst (fa_cons (fe_tup (fa_cons (fe_callT (cf_list mk_L) rfl T.b_list bo_list (fa_cons (fe_var 0) fa_nil)) (fa_cons fe_int (fa_cons (fe_var 2) fa_nil)))) (fa_cons (fe_tup (fa_cons (fe_var 0) (fa_cons fe_int (fa_cons (fe_callT (cf_list mk_L) rfl T.b_list bo_list (fa_cons (fe_var 2) fa_nil)) fa_nil)))) fa_nil))) fa_nil)))
      (fss_cons (fs_set (i := 4) nd rfl (by first | exact Or.inl rfl | exact Or.inr rfl) (fe_new (fa_cons (fe_tup (fa_cons fe_int (fa_cons fe_str (fa_cons (fe_tup (fa_cons fe_int (fa_cons fe_int fa_nil))) fa_nil)))) (fa_cons (fe_lst (fa_cons fe_int (fa_cons fe_str (fa_cons (fe_tup (fa_cons fe_int (fa_cons fe_int fa_nil))) fa_nil)))) (fa_cons (fe_tup (fa_cons fe_int (fa_cons fe_str fa_nil))) (fa_cons (fe_tup (fa_cons fe_int (fa_cons fe_str (fa_cons (fe_lst (fa_cons fe_int (fa_cons fe_int fa_nil))) fa_nil)))) (fa_cons (fe_tup (fa_cons fe_bl (fa_cons fe_str (fa_cons (fe_tup (fa_cons fe_int (fa_cons fe_int fa_nil))) fa_nil)))) (fa_cons (fe_tup (fa_cons (fe_un of_neg fe_int) (fa_cons fe_str (fa_cons (fe_tup (fa_cons fe_int (fa_cons fe_int fa_nil))) fa_nil)))) fa_nil))))))))
      (fss_cons (fs_expr (fe_extend ⟨rfl, rfl, rfl, rfl, rfl⟩ (fe_var 4) (fa_cons (fe_lst (fa_cons (fe_tup (fa_cons fe_int (fa_cons fe_str (fa_cons (fe_tup (fa_cons fe_int (fa_cons fe_int fa_nil))) fa_nil)))) (fa_cons (fe_tup (fa_cons fe_int (fa_cons fe_str (fa_cons (fe_tup (fa_cons fe_int (fa_cons fe_int fa_nil))) fa_nil)))) (fa_cons (fe_tup (fa_cons fe_int (fa_cons fe_str (fa_cons (fe_tup (fa_cons fe_int fa_nil)) fa_nil)))) (fa_cons (fe_tup (fa_cons fe_int (fa_cons fe_str (fa_cons (fe_tup (fa_cons fe_int (fa_cons fe_int (fa_cons fe_int fa_nil)))) fa_nil)))) fa_nil))))) fa_nil)))
      (fss_cons (fs_expr (fe_extend ⟨rfl, rfl, rfl, rfl, rfl⟩ (fe_var 4) (fa_cons (fe_lst (fa_cons (fe_tup (fa_cons fe_int (fa_cons fe_str (fa_cons (fe_tup (fa_cons fe_int (fa_cons fe_int fa_nil))) fa_nil)))) (fa_cons (fe_tup (fa_cons fe_int (fa_cons fe_str (fa_cons (fe_tup (fa_cons (fe_un of_neg fe_int) (fa_cons fe_int fa_nil))) fa_nil)))) fa_nil))) fa_nil)))
      (fss_cons (fs_expr (fe_extend ⟨rfl, rfl, rfl, rfl, rfl⟩ (fe_var 4) (fa_cons (fe_lst (fa_cons (fe_tup (fa_cons fe_int (fa_cons fe_str (fa_cons (fe_tup (fa_cons fe_non (fa_cons fe_int fa_nil))) fa_nil)))) (fa_cons (fe_tup (fa_cons fe_int (fa_cons fe_str (fa_cons (fe_tup (fa_cons fe_bl (fa_cons fe_int fa_nil))) fa_nil)))) (fa_cons (fe_tup (fa_cons fe_int (fa_cons fe_str (fa_cons (fe_tup (fa_cons fe_str (fa_cons fe_int fa_nil))) fa_nil)))) (fa_cons (fe_tup (fa_cons fe_int (fa_cons fe_str (fa_cons (fe_tup (fa_cons fe_int (fa_cons fe_str fa_nil))) fa_nil)))) (fa_cons (fe_tup (fa_cons fe_int (fa_cons fe_str (fa_cons (fe_tup (fa_cons fe_int (fa_cons (fe_un of_neg fe_int) fa_nil))) fa_nil)))) fa_nil)))))) fa_nil)))
      (fss_cons (fs_expr (fe_extend ⟨rfl, rfl, rfl, rfl, rfl⟩ (fe_var 4) (fa_cons (fe_lst (fa_cons (fe_tup (fa_cons fe_int (fa_cons fe_str (fa_cons (fe_tup (fa_cons fe_int (fa_cons fe_bl fa_nil))) fa_nil)))) (fa_cons (fe_tup (fa_cons fe_int (fa_cons fe_str (fa_cons (fe_tup (fa_cons fe_int (fa_cons (fe_tup (fa_cons fe_int fa_nil)) fa_nil))) fa_nil)))) (fa_cons (fe_tup (fa_cons fe_int (fa_cons fe_str (fa_cons (fe_tup (fa_cons fe_int (fa_cons fe_int fa_nil))) fa_nil)))) (fa_cons (fe_tup (fa_cons fe_int (fa_cons fe_str (fa_cons (fe_tup (fa_cons fe_int (fa_cons fe_int fa_nil))) fa_nil)))) fa_nil))))) fa_nil)))
      (fss_cons (fs_expr (fe_extend ⟨rfl, rfl, rfl, rfl, rfl⟩ (fe_var 4) (fa_cons (fe_lst (fa_cons (fe_tup (fa_cons fe_int (fa_cons fe_str (fa_cons (fe_tup (fa_cons fe_int (fa_cons fe_int fa_nil))) fa_nil)))) (fa_cons (fe_tup (fa_cons fe_int (fa_cons fe_str (fa_cons (fe_tup fa_nil) fa_nil)))) fa_nil))) fa_nil)))
      (fss_cons (fs_expr (fe_extend ⟨rfl, rfl, rfl, rfl, rfl⟩ (fe_var 4) (fa_cons (fe_lst (fa_cons (fe_tup (fa_cons fe_int (fa_cons fe_str (fa_cons (fe_tup (fa_cons fe_int (fa_cons (fe_bin of_pow fe_int fe_int) fa_nil))) fa_nil)))) (fa_cons (fe_tup (fa_cons fe_int (fa_cons fe_str (fa_cons (fe_tup (fa_cons (fe_bin of_pow fe_int fe_int) (fa_cons fe_int fa_nil))) fa_nil)))) (fa_cons (fe_tup (fa_cons fe_int (fa_cons fe_str (fa_cons (fe_tup (fa_cons fe_int (fa_cons fe_int fa_nil))) fa_nil)))) fa_nil)))) fa_nil)))
      (fss_cons (fs_expr (fe_extend ⟨rfl, rfl, rfl, rfl, rfl⟩ (fe_var 4) (fa_cons (fe_lst (fa_cons (fe_tup (fa_cons (fe_bin of_pow fe_int fe_int) (fa_cons fe_str (fa_cons (fe_tup (fa_cons fe_int (fa_cons fe_int fa_nil))) fa_nil)))) (fa_cons (fe_tup (fa_cons fe_int (fa_cons fe_str (fa_cons (fe_tup (fa_cons fe_int (fa_cons fe_int (fa_cons fe_int fa_nil)))) fa_nil)))) fa_nil))) fa_nil)))
      (fss_frz 4 (fss_cons (fs_for (passes_of rfl) rfl (fi_seq (fe_var 4)) (fg_name (i := 5) nd rfl (by first | exact Or.inl rfl | exact Or.inr rfl)) (fss_cons (fs_expr (fe_extend ⟨rfl, rfl, rfl, rfl, rfl⟩ (fe_var 3) (fa_cons (fe_lst (fa_cons (fe_tup (fa_cons (fe_var 0) (fa_cons (fe_var 1) (fa_cons (fe_bin (of_add mk_L) (fe_tup (fa_cons (fe_var 5) fa_nil)) (fe_slice (fe_var 2) (fo_some fe_int) fo_none)) fa_nil)))) (fa_cons (fe_tup (fa_cons (fe_var 0) (fa_cons (fe_var 1) (fa_cons (fe_tup (fa_cons (fe_var 5) fa_nil)) fa_nil)))) fa_nil))) fa_nil)))
      (fss_cons (fs_expr (fe_append ⟨rfl, rfl, rfl, rfl, rfl⟩ (fe_var 3) (fa_cons (fe_tup (fa_cons (fe_var 0) (fa_cons (fe_var 1) (fa_cons (fe_bin (of_add mk_L) (fe_bin (of_add mk_L) (fe_slice (fe_var 2) fo_none (fo_some fe_int)) (fe_tup (fa_cons (fe_var 5) fa_nil))) (fe_slice (fe_var 2) (fo_some fe_int) fo_none)) fa_nil)))) fa_nil)))
      (fss_one (fs_expr (fe_append ⟨rfl, rfl, rfl, rfl, rfl⟩ (fe_var 3) (fa_cons (fe_tup (fa_cons (fe_var 0) (fa_cons (fe_var 1) (fa_cons (fe_bin (of_add mk_L) (fe_bin (of_add mk_L) (fe_tup (fa_cons (fe_var 5) fa_nil)) (fe_slice (fe_var 2) (fo_some fe_int) (fo_some fe_int))) (fe_tup (fa_cons (fe_tup (fa_cons fe_int (fa_cons fe_str (fa_cons (fe_tup (fa_cons fe_int (fa_cons fe_non fa_nil))) fa_nil)))) (fa_cons (fe_tup (fa_cons fe_int (fa_cons fe_str (fa_cons (fe_tup (fa_cons fe_int (fa_cons fe_int (fa_cons fe_non fa_nil)))) fa_nil)))) fa_nil)))) fa_nil)))) fa_nil)))))))
      (fss_cons (fs_expr (fe_extend ⟨rfl, rfl, rfl, rfl, rfl⟩ (fe_var 3) (fa_cons (fe_lst (fa_cons (fe_tup (fa_cons (fe_var 0) (fa_cons fe_int (fa_cons (fe_revT (fe_var 2)) fa_nil)))) (fa_cons (fe_tup (fa_cons (fe_var 0) (fa_cons fe_int (fa_cons (fe_bin (of_add mk_L) (fe_var 2) (fe_slice (fe_var 2) (fo_some (fe_un of_neg fe_int)) fo_none)) fa_nil)))) (fa_cons (fe_tup (fa_cons (fe_var 0) (fa_cons fe_int (fa_cons (fe_slice (fe_var 2) (fo_some fe_int) fo_none) fa_nil)))) fa_nil)))) fa_nil)))
      (fss_cons (fs_expr (fe_append ⟨rfl, rfl, rfl, rfl, rfl⟩ (fe_var 3) (fa_cons (fe_tup (fa_cons (fe_var 0) (fa_cons fe_int (fa_cons (fe_bin (of_add mk_L) (fe_slice (fe_var 2) fo_none (fo_some fe_int)) (fe_slice (fe_var 2) (fo_some fe_int) fo_none)) fa_nil)))) fa_nil)))
      (fss_cons (fs_set (i := 6) nd rfl (by first | exact Or.inl rfl | exact Or.inr rfl) (fe_bin (of_add mk_L) (fe_bin (of_add mk_L) (fe_slice (fe_var 2) fo_none (fo_some fe_int)) (fe_tup (fa_cons (fe_tup (fa_cons fe_int (fa_cons fe_str (fa_cons (fe_tup (fa_cons (fe_un of_neg fe_int) (fa_cons fe_int (fa_cons fe_int fa_nil)))) fa_nil)))) fa_nil))) (fe_slice (fe_var 2) (fo_some fe_int) fo_none)))
      (fss_cons (fs_expr (fe_extend ⟨rfl, rfl, rfl, rfl, rfl⟩ (fe_var 3) (fa_cons (fe_lst (fa_cons (fe_tup (fa_cons (fe_var 0) (fa_cons fe_int (fa_cons (fe_var 6) fa_nil)))) (fa_cons (fe_tup (fa_cons (fe_var 0) (fa_cons fe_int (fa_cons (fe_bin (of_add mk_L) (fe_slice (fe_var 6) fo_none (fo_some (fe_un of_neg fe_int))) (fe_tup (fa_cons (fe_tup (fa_cons fe_int (fa_cons fe_str (fa_cons (fe_tup (fa_cons fe_int (fa_cons fe_int (fa_cons fe_non fa_nil)))) fa_nil)))) fa_nil))) fa_nil)))) fa_nil))) fa_nil)))
      (fss_cons (fs_expr (fe_append ⟨rfl, rfl, rfl, rfl, rfl⟩ (fe_var 3) (fa_cons (fe_tup (fa_cons (fe_var 0) (fa_cons fe_int (fa_cons (fe_bin (of_add mk_L) (fe_slice (fe_var 6) fo_none (fo_some (fe_un of_neg fe_int))) (fe_tup (fa_cons (fe_tup (fa_cons fe_int (fa_cons fe_str (fa_cons (fe_tup (fa_cons fe_int fa_nil)) fa_nil)))) fa_nil))) fa_nil)))) fa_nil)))
      (fss_cons (fs_set (i := 7) nd rfl (by first | exact Or.inl rfl | exact Or.inr rfl) (fe_callT cf_tuple rfl T.b_tuple bo_tuple (fa_cons (fe_lc (own := [("_law_k", 8)]) kp_L rfl nd (fi_range1 rfl T.b_range (fa_cons fe_int fa_nil)) (blkOk_by (N := N_law_by_hand) (sc := defScope s_law_by_hand) (by decide +kernel)) (by decide) (fun s2 H2 C2 cl2 fp2 => (fg_name (i := 8) nd rfl (by first | exact Or.inl rfl | exact Or.inr rfl))) (fun s2 H2 C2 cl2 fp2 => pts_no rfl) (fun s2 H2 C2 cl2 fp2 => (fe_tup (fa_cons (fe_var 8) (fa_cons fe_str (fa_cons (fe_tup (fa_cons fe_int (fa_cons fe_non (fa_cons fe_int fa_nil)))) fa_nil)))))) fa_nil)))
      (fss_cons (fs_expr (fe_extend ⟨rfl, rfl, rfl, rfl, rfl⟩ (fe_var 3) (fa_cons (fe_lst (fa_cons (fe_tup (fa_cons (fe_var 0) (fa_cons fe_int (fa_cons (fe_var 7) fa_nil)))) (fa_cons (fe_tup (fa_cons (fe_var 0) (fa_cons fe_int (fa_cons (fe_var 7) fa_nil)))) (fa_cons (fe_tup (fa_cons (fe_var 0) (fa_cons fe_int (fa_cons (fe_bin (of_add mk_L) (fe_slice (fe_var 7) fo_none (fo_some fe_int)) (fe_tup (fa_cons (fe_tup (fa_cons fe_int (fa_cons fe_str (fa_cons (fe_tup (fa_cons fe_int (fa_cons fe_non (fa_cons fe_int fa_nil)))) fa_nil)))) fa_nil))) fa_nil)))) fa_nil)))) fa_nil)))
      (fss_cons (fs_expr (fe_append ⟨rfl, rfl, rfl, rfl, rfl⟩ (fe_var 3) (fa_cons (fe_tup (fa_cons (fe_var 0) (fa_cons fe_int (fa_cons (fe_bin (of_add mk_L) (fe_slice (fe_var 7) fo_none (fo_some fe_int)) (fe_tup (fa_cons (fe_tup (fa_cons fe_int (fa_cons fe_str (fa_cons (fe_tup (fa_cons fe_int (fa_cons fe_non (fa_cons fe_int fa_nil)))) fa_nil)))) fa_nil))) fa_nil)))) fa_nil)))
      (fss_frz 3 (fss_one (fs_ret (fe_bin (of_add mk_L) (fe_var 3) (fe_lst (fa_cons (fe_tup (fa_cons (fe_var 0) (fa_cons fe_int (fa_cons (fe_bin (of_add mk_L) (fe_slice (fe_var 7) fo_none (fo_some fe_int)) (fe_tup (fa_cons (fe_tup (fa_cons fe_int (fa_cons fe_str (fa_cons (fe_tup fa_nil) fa_nil)))) fa_nil))) fa_nil)))) fa_nil))))))))))))))))))))))))))))))
abbrev N_law_ordered : List Str := ["_law_entries", "_law_known", "_law_slot"]
theorem sc_law_ordered : FnScope ["_law_entries", "_law_known", "_law_slot"] ["_law_entries"] (defScope s_law_ordered) := ⟨rfl, rfl, rfl, by decide +kernel, rfl, by decide +kernel, by decide +kernel⟩
theorem ok_law_ordered (T : Tx K mg base) : GAt false P w K mg base 1 "_law_ordered" s_law_ordered ["_law_entries"] g_law_ordered := g_at T.d_law_ordered sc_law_ordered fun f cd A outer s H E hcd hG hr => by
    have nd := sc_law_ordered.nd
    exact (fss_cons (fs_set (i := 1) nd rfl (by first | exact Or.inl rfl | exact Or.inr rfl) (fe_callT (cf_dict rfl) rfl T.b_dict bo_dict (fa_cons (fe_var 0) fa_nil)))
      (fss_one (fs_ret (fe_callT cf_tuple rfl T.b_tuple bo_tuple (fa_cons (fe_lc (own := [("_law_slot", 2)]) kp_L rfl nd (fi_seq (fe_callB (cf_sorted mk_L rfl) rfl T.b_sorted bo_sorted (fa_cons (fe_var 1) fa_nil))) (blkOk_by (N := N_law_ordered) (sc := defScope s_law_ordered) (by decide +kernel)) (by decide) (fun s2 H2 C2 cl2 fp2 => (fg_name (i := 2) nd rfl (by first | exact Or.inl rfl | exact Or.inr rfl))) (fun s2 H2 C2 cl2 fp2 => pts_no rfl) (fun s2 H2 C2 cl2 fp2 => (fe_tup (fa_cons (fe_var 2) (fa_cons (fe_dget (hu1 hr) (fe_var 1) (fe_var 2) (by intro _ _; rfl)) fa_nil))))) fa_nil)))))
abbrev N_law_schema : List Str := ["_law_feed_here", "_law_pool", "_law_found", "_law_names", "_law_k", "_law_title", "_law_slots", "_law_entries", "_law_slot", "_law_low", "_law_sort"]
theorem sc_law_schema : FnScope ["_law_feed_here", "_law_pool", "_law_found", "_law_names", "_law_k", "_law_title", "_law_slots", "_law_entries", "_law_slot", "_law_low", "_law_sort"] ["_law_feed_here"] (defScope s_law_schema) := ⟨rfl, rfl, rfl, by decide +kernel, rfl, by decide +kernel, by decide +kernel⟩
theorem ok_law_schema (T : Tx K mg base) : GAt false P w K mg base 2 "_law_schema" s_law_schema ["_law_feed_here"] g_law_schema := g_at T.d_law_schema sc_law_schema fun f cd A outer s H E hcd hG hr => by
    have nd := sc_law_schema.nd
    exact (fss_cons (fs_asg (fe_tup (fa_cons (fe_new (fa_cons fe_str (fa_cons fe_str (fa_cons fe_str (fa_cons fe_str (fa_cons fe_str fa_nil)))))) (fa_cons (fe_new fa_nil) fa_nil))) (fg_tup rfl (fgs_cons (fg_name (i := 1) nd rfl (by first | exact Or.inl rfl | exact Or.inr rfl)) (fgs_cons (fg_name (i := 2) nd rfl (by first | exact Or.inl rfl | exact Or.inr rfl)) fgs_nil))))
      (fss_cons (fs_set (i := 3) nd rfl (by first | exact Or.inl rfl | exact Or.inr rfl) (fe_callB (cf_sorted mk_L rfl) rfl T.b_sorted bo_sorted (fa_cons (fe_lc (own := [("_law_k", 4)]) kp_L rfl nd (fi_range1 rfl T.b_range (fa_cons (fe_bin (of_add mk_L) fe_int (fe_callD (ok_law_draw T) (fun z => nomatch z) (hr.mono (by decide)) rfl (takes_of rfl rfl rfl rfl) (fa_cons (fe_var 0) (fa_cons fe_int fa_nil)))) fa_nil)) (blkOk_by (N := N_law_schema) (sc := defScope s_law_schema) (by decide +kernel)) (by decide) (fun s2 H2 C2 cl2 fp2 => (fg_name (i := 4) nd rfl (by first | exact Or.inl rfl | exact Or.inr rfl))) (fun s2 H2 C2 cl2 fp2 => pts_no rfl) (fun s2 H2 C2 cl2 fp2 => (fe_popAt ⟨rfl, rfl, rfl, rfl, rfl⟩ (fe_var 1) (fa_cons (fe_callD (ok_law_draw T) (fun z => nomatch z) (hr.mono (by decide)) rfl tk0 (fa_cons (fe_var 0) (fa_cons (fe_callB cf_len rfl T.b_len bo_len (fa_cons (fe_var 1) fa_nil)) fa_nil))) fa_nil)))) fa_nil)))
      (fss_cons (fs_for (passes_of rfl) rfl (fi_seq (fe_var 3)) (fg_name (i := 5) nd rfl (by first | exact Or.inl rfl | exact Or.inr rfl)) (fss_cons (fs_par (i := 6) (j := 7) rfl nd rfl rfl (by decide) rfl rfl (fa_cons (fe_new (fa_cons fe_str (fa_cons fe_str (fa_cons fe_str (fa_cons fe_str (fa_cons fe_str (fa_cons fe_str (fa_cons fe_str fa_nil)))))))) (fa_cons (fe_new fa_nil) fa_nil)) (by rfl))
      (fss_cons (fs_for (passes_of rfl) rfl (fi_range1 rfl T.b_range (fa_cons (fe_callD (ok_law_draw T) (fun z => nomatch z) (hr.mono (by decide)) rfl (takes_of rfl rfl rfl rfl) (fa_cons (fe_var 0) (fa_cons fe_int fa_nil))) fa_nil)) (fg_name (i := 4) nd rfl (by first | exact Or.inl rfl | exact Or.inr rfl)) (fss_cons (fs_set (i := 8) nd rfl (by first | exact Or.inl rfl | exact Or.inr rfl) (fe_popAt ⟨rfl, rfl, rfl, rfl, rfl⟩ (fe_var 6) (fa_cons (fe_callD (ok_law_draw T) (fun z => nomatch z) (hr.mono (by decide)) rfl (takes_of rfl rfl rfl rfl) (fa_cons (fe_var 0) (fa_cons (fe_callB cf_len rfl T.b_len bo_len (fa_cons (fe_var 6) fa_nil)) fa_nil))) fa_nil)))
      (fss_cons (fs_set (i := 9) nd rfl (by first | exact Or.inl rfl | exact Or.inr rfl) (fe_ix (fe_lst (fa_cons fe_int (fa_cons fe_int (fa_cons (fe_un of_neg fe_int) (fa_cons fe_int (fa_cons (fe_un of_neg fe_int) (fa_cons fe_int fa_nil))))))) (fe_callD (ok_law_draw T) (fun z => nomatch z) (hr.mono (by decide)) rfl (takes_of rfl rfl rfl rfl) (fa_cons (fe_var 0) (fa_cons fe_int fa_nil))) (by intro _ _; rfl)))
      (fss_cons (fs_set (i := 10) nd rfl (by first | exact Or.inl rfl | exact Or.inr rfl) (fe_tup (fa_cons (fe_var 9) (fa_cons (fe_bin (of_add mk_L) (fe_var 9) (fe_ix (fe_lst (fa_cons fe_int (fa_cons fe_int (fa_cons fe_int (fa_cons fe_int fa_nil))))) (fe_callD (ok_law_draw T) (fun z => nomatch z) (hr.mono (by decide)) rfl (takes_of rfl rfl rfl rfl) (fa_cons (fe_var 0) (fa_cons fe_int fa_nil))) (by intro _ _; rfl))) fa_nil))))
      (fss_cons (fs_if (ft_cmp (of_eq (hu64 hr)) (fe_callD (ok_law_draw T) (fun z => nomatch z) (hr.mono (by decide)) rfl (takes_of rfl rfl rfl rfl) (fa_cons (fe_var 0) (fa_cons fe_int fa_nil))) fe_int (by rfl)) (fss_one (fs_set (i := 10) nd rfl (by first | exact Or.inl rfl | exact Or.inr rfl) (fe_ix (fe_var 3) (fe_callD (ok_law_draw T) (fun z => nomatch z) (hr.mono (by decide)) rfl (takes_of rfl rfl rfl rfl) (fa_cons (fe_var 0) (fa_cons (fe_callB cf_len rfl T.b_len bo_len (fa_cons (fe_var 3) fa_nil)) fa_nil))) (by intro _ _; rfl)))) fss_nil)
      (fss_one (fs_expr (fe_append ⟨rfl, rfl, rfl, rfl, rfl⟩ (fe_var 7) (fa_cons (fe_tup (fa_cons (fe_var 8) (fa_cons (fe_var 10) fa_nil))) fa_nil)))))))))
      (fss_one (fs_expr (fe_append ⟨rfl, rfl, rfl, rfl, rfl⟩ (fe_var 2) (fa_cons (fe_tup (fa_cons (fe_var 5) (fa_cons (fe_callD (ok_law_ordered T) (fun z => nomatch z) (hr.mono (by decide)) rfl (takes_of rfl rfl rfl rfl) (fa_cons (fe_var 7) fa_nil)) fa_nil))) fa_nil)))))))
      (fss_one (fs_ret (fe_callT cf_tuple rfl T.b_tuple bo_tuple (fa_cons (fe_var 2) fa_nil)))))))
abbrev N_law_odd : List Str := ["_law_feed_here", "_law_odd_here"]
theorem sc_law_odd : FnScope ["_law_feed_here", "_law_odd_here"] ["_law_feed_here"] (defScope s_law_odd) := ⟨rfl, rfl, rfl, by decide +kernel, rfl, by decide +kernel, by decide +kernel⟩
theorem ok_law_odd (T : Tx K mg base) : GAt false P w K mg base 2 "_law_odd" s_law_odd ["_law_feed_here"] g_law_odd := g_at T.d_law_odd sc_law_odd fun f cd A outer s H E hcd hG hr => by
    have nd := sc_law_odd.nd
    exact (fss_cons (fs_set (i := 1) nd rfl (by first | exact Or.inl rfl | exact Or.inr rfl) (fe_lst (fa_cons fe_non (fa_cons fe_bl (fa_cons fe_bl (fa_cons fe_int (fa_cons (fe_un of_neg fe_int) (fa_cons fe_int (fa_cons fe_str (fa_cons fe_str (fa_cons fe_str (fa_cons (fe_tup fa_nil) (fa_cons (fe_lst fa_nil) (fa_cons (fe_tup (fa_cons fe_str fa_nil)) (fa_cons (fe_tup (fa_cons fe_str fa_nil)) (fa_cons (fe_tup (fa_cons fe_str fa_nil)) (fa_cons fe_str (fa_cons (fe_tup (fa_cons fe_str (fa_cons fe_int fa_nil))) (fa_cons (fe_tup (fa_cons fe_int (fa_cons fe_int fa_nil))) fa_nil)))))))))))))))))))
      (fss_one (fs_ret (fe_ix (fe_var 1) (fe_callD (ok_law_draw T) (fun z => nomatch z) (hr.mono (by decide)) rfl (takes_of rfl rfl rfl rfl) (fa_cons (fe_var 0) (fa_cons fe_int fa_nil))) (by intro _ _; rfl)))))
abbrev N_law_bent : List Str := ["_law_feed_here", "_law_item", "_law_spot", "_law_way", "_law_some"]
theorem sc_law_bent : FnScope ["_law_feed_here", "_law_item", "_law_spot", "_law_way", "_law_some"] ["_law_feed_here", "_law_item"] (defScope s_law_bent) := ⟨rfl, rfl, rfl, by decide +kernel, rfl, by decide +kernel, by decide +kernel⟩
theorem ok_law_bent (T : Tx K mg base) : ∀ k : Nat, GAt false P w K mg base (2 + k) "_law_bent" s_law_bent ["_law_feed_here", "_law_item"] (g_law_bent k)
  | 0 => g_no T.d_law_bent
  | k + 1 => g_at T.d_law_bent sc_law_bent fun f cd A outer s H E hcd hG hr => by
    have nd := sc_law_bent.nd
    have ih := ok_law_bent T k
    have hr : Room (2 + k) _ := hr
    exact (fss_cons (fs_if (FW.ft (fw_and (ft_val (fe_isi (T := "tuple") rfl (by decide) rfl T.b_isinstance rfl T.b_tuple bo_tuple bo_isinstance (fe_var 1))) (fw_and (ft_cmp (of_ne (hu64 hr)) (fe_var 1) (fe_tup fa_nil) (by rfl)) (fw_and1 (ft_cmp of_gt (fe_callD (ok_law_draw T) (fun z => nomatch z) (hr.mono (by omega)) rfl (takes_of rfl rfl rfl rfl) (fa_cons (fe_var 0) (fa_cons fe_int fa_nil))) fe_int (by rfl)))))) (fss_cons (fs_set (i := 2) nd rfl (by first | exact Or.inl rfl | exact Or.inr rfl) (fe_callD (ok_law_draw T) (fun z => nomatch z) (hr.mono (by omega)) rfl (takes_of rfl rfl rfl rfl) (fa_cons (fe_var 0) (fa_cons (fe_callB cf_len rfl T.b_len bo_len (fa_cons (fe_var 1) fa_nil)) fa_nil))))
      (fss_one (fs_ret (fe_bin (of_add mk_L) (fe_bin (of_add mk_L) (fe_slice (fe_var 1) fo_none (fo_some (fe_var 2))) (fe_tup (fa_cons (fe_callD ih (fun z => nomatch z) (hr.mono (by omega)) rfl (takes_of rfl rfl rfl rfl) (fa_cons (fe_var 0) (fa_cons (fe_ix (fe_var 1) (fe_var 2) (by intro _ _; rfl)) fa_nil))) fa_nil))) (fe_slice (fe_var 1) (fo_some (fe_bin (of_add mk_L) (fe_var 2) fe_int)) fo_none))))) fss_nil)
      (fss_cons (fs_set (i := 3) nd rfl (by first | exact Or.inl rfl | exact Or.inr rfl) (fe_callD (ok_law_draw T) (fun z => nomatch z) (hr.mono (by omega)) rfl (takes_of rfl rfl rfl rfl) (fa_cons (fe_var 0) (fa_cons fe_int fa_nil))))
      (fss_cons (fs_if (FW.ft (fw_and (ft_val (fe_isi (T := "tuple") rfl (by decide) rfl T.b_isinstance rfl T.b_tuple bo_tuple bo_isinstance (fe_var 1))) (fw_and1 (ft_cmp of_lt (fe_var 3) fe_int (by rfl))))) (fss_cons (fs_set (i := 4) nd rfl (by first | exact Or.inl rfl | exact Or.inr rfl) (fe_lst (fa_cons (fe_callT (cf_list mk_L) rfl T.b_list bo_list (fa_cons (fe_var 1) fa_nil)) (fa_cons (fe_slice (fe_var 1) (fo_some fe_int) fo_none) (fa_cons (fe_slice (fe_var 1) fo_none (fo_some (fe_un of_neg fe_int))) (fa_cons (fe_bin (of_add mk_L) (fe_var 1) (fe_slice (fe_var 1) (fo_some (fe_un of_neg fe_int)) fo_none)) fa_nil))))))
      (fss_one (fs_ret (fe_ix (fe_bin (of_add mk_L) (fe_var 4) (fe_lst (fa_cons (fe_revT (fe_var 1)) (fa_cons (fe_tup (fa_cons (fe_var 1) fa_nil)) (fa_cons (fe_bin (of_add mk_L) (fe_var 1) (fe_tup (fa_cons fe_non fa_nil))) fa_nil))))) (fe_var 3) (by intro _ _; rfl))))) fss_nil)
      (fss_cons (fs_if (FW.ft (fw_and (ft_val (fe_isi (T := "str") rfl (by decide) rfl T.b_isinstance rfl T.b_str bo_str bo_isinstance (fe_var 1))) (fw_and1 (ft_cmp of_lt (fe_var 3) fe_int (by rfl))))) (fss_one (fs_ret (fe_ix (fe_lst (fa_cons (fe_bin (of_add mk_L) (fe_var 1) fe_str) (fa_cons (fe_slice (fe_var 1) fo_none (fo_some (fe_un of_neg fe_int))) (fa_cons (fe_upper (fe_var 1)) (fa_cons (fe_bin (of_add mk_L) (fe_var 1) fe_str) (fa_cons (fe_lst (fa_cons (fe_var 1) fa_nil)) (fa_cons (fe_bin (of_add mk_L) (fe_var 1) fe_str) fa_nil))))))) (fe_var 3) (by intro _ _; rfl)))) fss_nil)
      (fss_cons (fs_if (FW.ft (fw_and (ft_val (fe_isi (T := "int") rfl (by decide) rfl T.b_isinstance rfl T.b_int bo_int bo_isinstance (fe_var 1))) (fw_and1 (ft_cmp of_lt (fe_var 3) fe_int (by rfl))))) (fss_one (fs_ret (fe_ix (fe_lst (fa_cons (fe_bin (of_add mk_L) (fe_var 1) fe_int) (fa_cons (fe_bin of_sub (fe_var 1) fe_int) (fa_cons (fe_cmp (of_eq (hu64 hr)) (fe_var 1) fe_int (by rfl)) (fa_cons (fe_callT cf_str rfl T.b_str bo_str (fa_cons (fe_var 1) fa_nil)) (fa_cons (fe_bin of_sub fe_int (fe_var 1)) (fa_cons (fe_lst (fa_cons (fe_var 1) fa_nil)) fa_nil))))))) (fe_var 3) (by intro _ _; rfl)))) fss_nil)
      (fss_one (fs_ret (fe_callD (ok_law_odd T) (fun z => nomatch z) (hr.mono (by omega)) rfl (takes_of rfl rfl rfl rfl) (fa_cons (fe_var 0) fa_nil)))))))))
abbrev N_form_of : List Str := ["schema", "cls", "name", "form"]
theorem sc_form_of : FnScope ["schema", "cls", "name", "form"] ["schema", "cls"] (defScope s_form_of) := ⟨rfl, rfl, rfl, by decide +kernel, rfl, by decide +kernel, by decide +kernel⟩
theorem ok_form_of (T : Tx K mg base) : GAt false P w K mg base 1 "form_of" s_form_of ["schema", "cls"] g_form_of := g_at T.d_form_of sc_form_of fun f cd A outer s H E hcd hG hr => by
    have nd := sc_form_of.nd
    exact (fss_cons (fs_for (passes_of rfl) rfl (fi_seq (fe_var 0)) (fg_tup rfl (fgs_cons (fg_name (i := 2) nd rfl (by first | exact Or.inl rfl | exact Or.inr rfl)) (fgs_cons (fg_name (i := 3) nd rfl (by first | exact Or.inl rfl | exact Or.inr rfl)) fgs_nil))) (fss_one (fs_if (ft_cmp (of_eq (hu64 hr)) (fe_var 2) (fe_var 1) (by rfl)) (fss_one (fs_ret (fe_var 3))) fss_nil)))
      (fss_one (fs_ret fe_non)))
abbrev N_is_link : List Str := ["kind"]
theorem sc_is_link : FnScope ["kind"] ["kind"] (defScope s_is_link) := ⟨rfl, rfl, rfl, by decide +kernel, rfl, by decide +kernel, by decide +kernel⟩
theorem ok_is_link (T : Tx K mg base) : GAt false P w K mg base 1 "is_link" s_is_link ["kind"] g_is_link := g_at T.d_is_link sc_is_link fun f cd A outer s H E hcd hG hr => by
    have nd := sc_is_link.nd
    exact (fss_one (fs_ret (fe_isi (T := "str") rfl (by decide) rfl T.b_isinstance rfl T.b_str bo_str bo_isinstance (fe_var 0))))
abbrev N_check_links : List Str := ["schema", "objects", "classes", "number", "cls", "_", "k", "values", "j", "kind"]
theorem sc_check_links : FnScope ["schema", "objects", "classes", "number", "cls", "_", "k", "values", "j", "kind"] ["schema", "objects"] (defScope s_check_links) := ⟨rfl, rfl, rfl, by decide +kernel, rfl, by decide +kernel, by decide +kernel⟩
theorem ok_check_links (T : Tx K mg base) : GAt false P w K mg base 3 "check_links" s_check_links ["schema", "objects"] g_check_links := g_at T.d_check_links sc_check_links fun f cd A outer s H E hcd hG hr => by
    have nd := sc_check_links.nd
    exact (fss_cons (fs_setDc (i := 2) rfl rfl rfl rfl rfl (own := [("number", 3), ("cls", 4), ("_", 5)]) rfl nd (fi_seq (fe_var 1)) (blkOk_by (N := N_check_links) (sc := defScope s_check_links) (by decide +kernel)) (by decide) (fun s2 H2 C2 cl2 fp2 => (fg_tup rfl (fgs_cons (fg_name (i := 3) nd rfl (by first | exact Or.inl rfl | exact Or.inr rfl)) (fgs_cons (fg_name (i := 4) nd rfl (by first | exact Or.inl rfl | exact Or.inr rfl)) (fgs_cons (fg_name (i := 5) nd rfl (by first | exact Or.inl rfl | exact Or.inr rfl)) fgs_nil))))) (fun s2 H2 C2 cl2 fp2 => pts_no rfl) (fun s2 H2 C2 cl2 fp2 => (fe_var 3)) (fun s2 H2 C2 cl2 fp2 => (fe_var 4)))
      (fss_one (fs_for (passes_of rfl) rfl (fi_enu rfl T.b_enumerate (fa_cons (fe_var 1) fa_nil)) (fg_tup rfl (fgs_cons (fg_name (i := 6) nd rfl (by first | exact Or.inl rfl | exact Or.inr rfl)) (fgs_cons (fg_tup rfl (fgs_cons (fg_name (i := 5) nd rfl (by first | exact Or.inl rfl | exact Or.inr rfl)) (fgs_cons (fg_name (i := 4) nd rfl (by first | exact Or.inl rfl | exact Or.inr rfl)) (fgs_cons (fg_name (i := 7) nd rfl (by first | exact Or.inl rfl | exact Or.inr rfl)) fgs_nil)))) fgs_nil))) (fss_one (fs_for (passes_of rfl) rfl (fi_enu rfl T.b_enumerate (fa_cons (fe_callD (ok_form_of T) (fun z => nomatch z) (hr.mono (by decide)) rfl (takes_of rfl rfl rfl rfl) (fa_cons (fe_var 0) (fa_cons (fe_var 4) fa_nil))) fa_nil)) (fg_tup rfl (fgs_cons (fg_name (i := 8) nd rfl (by first | exact Or.inl rfl | exact Or.inr rfl)) (fgs_cons (fg_tup rfl (fgs_cons (fg_name (i := 5) nd rfl (by first | exact Or.inl rfl | exact Or.inr rfl)) (fgs_cons (fg_name (i := 9) nd rfl (by first | exact Or.inl rfl | exact Or.inr rfl)) fgs_nil))) fgs_nil))) (fss_one (fs_if (FW.ft (fw_and (ft_val (fe_callD (ok_is_link T) (fun z => nomatch z) (hr.mono (by decide)) rfl (takes_of rfl rfl rfl rfl) (fa_cons (fe_var 9) fa_nil))) (fw_and (ft_cmp of_isnt (fe_ix (fe_var 7) (fe_var 8) (by intro _ _; rfl)) fe_non (by rfl)) (fw_and1 (ft_cmp (of_ne (hu64 hr)) (fe_get1 (hu1 hr) (fe_var 2) (fe_ix (fe_var 7) (fe_var 8) (by intro _ _; rfl)) ⟨rfl, rfl, rfl, rfl⟩) (fe_var 9) (by rfl)))))) (fss_one (fs_raise2 (x := "InvalidPaper") (f := "word") (g := "at") (k := 0) T.x_InvalidPaper rfl (takes_of rfl rfl rfl rfl) (hr.mono (by decide)) rfl (fa_cons fe_str (fa_cons (fe_tup (fa_cons (fe_var 6) (fa_cons (fe_var 8) fa_nil))) fa_nil)))) fss_nil)))))))
abbrev N_ascends : List Str := ["names", "k"]
theorem sc_ascends : FnScope ["names", "k"] ["names"] (defScope s_ascends) := ⟨rfl, rfl, rfl, by decide +kernel, rfl, by decide +kernel, by decide +kernel⟩
theorem ok_ascends (T : Tx K mg base) : GAt false P w K mg base 1 "ascends" s_ascends ["names"] g_ascends := g_at T.d_ascends sc_ascends fun f cd A outer s H E hcd hG hr => by
    have nd := sc_ascends.nd
    exact (fss_one (fs_ret (fe_callB (cf_all rfl) rfl T.b_all bo_all (fa_cons (fe_lc (own := [("k", 1)]) kp_L rfl nd (fi_range1 rfl T.b_range (fa_cons (fe_bin of_sub (fe_callB cf_len rfl T.b_len bo_len (fa_cons (fe_var 0) fa_nil)) fe_int) fa_nil)) (blkOk_by (N := N_ascends) (sc := defScope s_ascends) (by decide +kernel)) (by decide) (fun s2 H2 C2 cl2 fp2 => (fg_name (i := 1) nd rfl (by first | exact Or.inl rfl | exact Or.inr rfl))) (fun s2 H2 C2 cl2 fp2 => pts_no rfl) (fun s2 H2 C2 cl2 fp2 => (fe_cmp of_lt (fe_ix (fe_var 0) (fe_var 1) (by intro _ _; rfl)) (fe_ix (fe_var 0) (fe_bin (of_add mk_L) (fe_var 1) fe_int) (by intro _ _; rfl)) (by rfl)))) fa_nil))))
abbrev N_is_name : List Str := ["thing", "sign"]
theorem sc_is_name : FnScope ["thing", "sign"] ["thing"] (defScope s_is_name) := ⟨rfl, rfl, rfl, by decide +kernel, rfl, by decide +kernel, by decide +kernel⟩
theorem ok_is_name (T : Tx K mg base) : GAt false P w K mg base 1 "is_name" s_is_name ["thing"] g_is_name := g_at T.d_is_name sc_is_name fun f cd A outer s H E hcd hG hr => by
    have nd := sc_is_name.nd
    exact (fss_cons (fs_if (ft_not (ft_val (fe_isi (T := "str") rfl (by decide) rfl T.b_isinstance rfl T.b_str bo_str bo_isinstance (fe_var 0)))) (fss_one (fs_ret fe_bl)) fss_nil)
      (fss_one (fs_ret (fe_and (fe_chain of_le of_le fe_int (fe_callB cf_len rfl T.b_len bo_len (fa_cons (fe_var 0) fa_nil)) (fe_globE (v := V.int 8) rfl T.c_LONGEST (fun _ _ _ => rfl))) (fe_one (fe_callB (cf_all rfl) rfl T.b_all bo_all (fa_cons (fe_lc (own := [("sign", 1)]) kp_L rfl nd (fi_seq (fe_var 0)) (blkOk_by (N := N_is_name) (sc := defScope s_is_name) (by decide +kernel)) (by decide) (fun s2 H2 C2 cl2 fp2 => (fg_name (i := 1) nd rfl (by first | exact Or.inl rfl | exact Or.inr rfl))) (fun s2 H2 C2 cl2 fp2 => pts_no rfl) (fun s2 H2 C2 cl2 fp2 => (fe_cmp of_in (fe_var 1) (fe_globE (v := V.str "abcdefghijklmnopqrstuvwxyz") rfl T.c_LETTERS (fun _ _ _ => rfl)) (by rfl)))) fa_nil)))))))
abbrev N_are_named : List Str := ["thing", "row", "names", "name", "_"]
theorem sc_are_named : FnScope ["thing", "row", "names", "name", "_"] ["thing"] (defScope s_are_named) := ⟨rfl, rfl, rfl, by decide +kernel, rfl, by decide +kernel, by decide +kernel⟩
theorem ok_are_named (T : Tx K mg base) : GAt false P w K mg base 2 "are_named" s_are_named ["thing"] g_are_named := g_at T.d_are_named sc_are_named fun f cd A outer s H E hcd hG hr => by
    have nd := sc_are_named.nd
    exact (fss_cons (fs_if (ft_not (ft_val (fe_isi (T := "tuple") rfl (by decide) rfl T.b_isinstance rfl T.b_tuple bo_tuple bo_isinstance (fe_var 0)))) (fss_one (fs_ret fe_bl)) fss_nil)
      (fss_cons (fs_if (ft_not (ft_val (fe_callB (cf_all rfl) rfl T.b_all bo_all (fa_cons (fe_lc (own := [("row", 1)]) kp_L rfl nd (fi_seq (fe_var 0)) (blkOk_by (N := N_are_named) (sc := defScope s_are_named) (by decide +kernel)) (by decide) (fun s2 H2 C2 cl2 fp2 => (fg_name (i := 1) nd rfl (by first | exact Or.inl rfl | exact Or.inr rfl))) (fun s2 H2 C2 cl2 fp2 => pts_no rfl) (fun s2 H2 C2 cl2 fp2 => (fe_and (fe_isi (T := "tuple") rfl (by decide) rfl T.b_isinstance rfl T.b_tuple bo_tuple bo_isinstance (fe_var 1)) (fe_one (fe_cmp (of_eq (hu64 hr)) (fe_callB cf_len rfl T.b_len bo_len (fa_cons (fe_var 1) fa_nil)) fe_int (by rfl)))))) fa_nil)))) (fss_one (fs_ret fe_bl)) fss_nil)
      (fss_cons (fs_setLc (i := 2) rfl rfl rfl rfl rfl (own := [("name", 3), ("_", 4)]) kp_L rfl nd (fi_seq (fe_var 0)) (blkOk_by (N := N_are_named) (sc := defScope s_are_named) (by decide +kernel)) (by decide) (fun s2 H2 C2 cl2 fp2 => (fg_tup rfl (fgs_cons (fg_name (i := 3) nd rfl (by first | exact Or.inl rfl | exact Or.inr rfl)) (fgs_cons (fg_name (i := 4) nd rfl (by first | exact Or.inl rfl | exact Or.inr rfl)) fgs_nil)))) (fun s2 H2 C2 cl2 fp2 => pts_no rfl) (fun s2 H2 C2 cl2 fp2 => (fe_var 3)))
      (fss_one (fs_ret (fe_and (fe_callB (cf_all rfl) rfl T.b_all bo_all (fa_cons (fe_lc (own := [("name", 3)]) kp_L rfl nd (fi_seq (fe_var 2)) (blkOk_by (N := N_are_named) (sc := defScope s_are_named) (by decide +kernel)) (by decide) (fun s2 H2 C2 cl2 fp2 => (fg_name (i := 3) nd rfl (by first | exact Or.inl rfl | exact Or.inr rfl))) (fun s2 H2 C2 cl2 fp2 => pts_no rfl) (fun s2 H2 C2 cl2 fp2 => (fe_callD (ok_is_name T) (fun z => nomatch z) (hr.mono (by decide)) rfl tk0 (fa_cons (fe_var 3) fa_nil)))) fa_nil)) (fe_one (fe_callD (ok_ascends T) (fun z => nomatch z) (hr.mono (by decide)) rfl (takes_of rfl rfl rfl rfl) (fa_cons (fe_var 2) fa_nil)))))))))
abbrev N_links_lead : List Str := ["form", "classes", "_", "kind"]
theorem sc_links_lead : FnScope ["form", "classes", "_", "kind"] ["form", "classes"] (defScope s_links_lead) := ⟨rfl, rfl, rfl, by decide +kernel, rfl, by decide +kernel, by decide +kernel⟩
theorem ok_links_lead (T : Tx K mg base) : GAt false P w K mg base 1 "links_lead" s_links_lead ["form", "classes"] g_links_lead := g_at T.d_links_lead sc_links_lead fun f cd A outer s H E hcd hG hr => by
    have nd := sc_links_lead.nd
    exact (fss_one (fs_ret (fe_callB (cf_all rfl) rfl T.b_all bo_all (fa_cons (fe_lc (own := [("_", 2), ("kind", 3)]) kp_L rfl nd (fi_seq (fe_var 0)) (blkOk_by (N := N_links_lead) (sc := defScope s_links_lead) (by decide +kernel)) (by decide) (fun s2 H2 C2 cl2 fp2 => (fg_tup rfl (fgs_cons (fg_name (i := 2) nd rfl (by first | exact Or.inl rfl | exact Or.inr rfl)) (fgs_cons (fg_name (i := 3) nd rfl (by first | exact Or.inl rfl | exact Or.inr rfl)) fgs_nil)))) (fun s2 H2 C2 cl2 fp2 => pts_if (ft_val (fe_isi (T := "str") rfl (by decide) rfl T.b_isinstance rfl T.b_str bo_str bo_isinstance (fe_var 3)))) (fun s2 H2 C2 cl2 fp2 => (fe_cmp of_in (fe_var 3) (fe_var 1) (by rfl)))) fa_nil))))
abbrev N_is_integer : List Str := ["thing"]
theorem sc_is_integer : FnScope ["thing"] ["thing"] (defScope s_is_integer) := ⟨rfl, rfl, rfl, by decide +kernel, rfl, by decide +kernel, by decide +kernel⟩
theorem ok_is_integer (T : Tx K mg base) : GAt false P w K mg base 1 "is_integer" s_is_integer ["thing"] g_is_integer := g_at T.d_is_integer sc_is_integer fun f cd A outer s H E hcd hG hr => by
    have nd := sc_is_integer.nd
    exact (fss_one (fs_ret (fe_and (fe_isi (T := "int") rfl (by decide) rfl T.b_isinstance rfl T.b_int bo_int bo_isinstance (fe_var 0)) (fe_one (fe_not (fe_isi (T := "bool") rfl (by decide) rfl T.b_isinstance rfl T.b_bool bo_bool bo_isinstance (fe_var 0)))))))
abbrev N_is_range : List Str := ["thing"]
theorem sc_is_range : FnScope ["thing"] ["thing"] (defScope s_is_range) := ⟨rfl, rfl, rfl, by decide +kernel, rfl, by decide +kernel, by decide +kernel⟩
theorem ok_is_range (T : Tx K mg base) : GAt false P w K mg base 2 "is_range" s_is_range ["thing"] g_is_range := g_at T.d_is_range sc_is_range fun f cd A outer s H E hcd hG hr => by
    have nd := sc_is_range.nd
    exact (fss_cons (fs_if (FW.ft (fw_or (ft_not (ft_val (fe_isi (T := "tuple") rfl (by decide) rfl T.b_isinstance rfl T.b_tuple bo_tuple bo_isinstance (fe_var 0)))) (fw_or1 (ft_cmp (of_ne (hu64 hr)) (fe_callB cf_len rfl T.b_len bo_len (fa_cons (fe_var 0) fa_nil)) fe_int (by rfl))))) (fss_one (fs_ret fe_bl)) fss_nil)
      (fss_one (fs_ret (fe_and (fe_callD (ok_is_integer T) (fun z => nomatch z) (hr.mono (by decide)) rfl (takes_of rfl rfl rfl rfl) (fa_cons (fe_ix (fe_var 0) fe_int (by intro _ _; rfl)) fa_nil)) (fe_and (fe_callD (ok_is_integer T) (fun z => nomatch z) (hr.mono (by decide)) rfl (takes_of rfl rfl rfl rfl) (fa_cons (fe_ix (fe_var 0) fe_int (by intro _ _; rfl)) fa_nil)) (fe_one (fe_cmp of_le (fe_ix (fe_var 0) fe_int (by intro _ _; rfl)) (fe_ix (fe_var 0) fe_int (by intro _ _; rfl)) (by rfl))))))))
abbrev N_is_kind : List Str := ["thing"]
theorem sc_is_kind : FnScope ["thing"] ["thing"] (defScope s_is_kind) := ⟨rfl, rfl, rfl, by decide +kernel, rfl, by decide +kernel, by decide +kernel⟩
theorem ok_is_kind (T : Tx K mg base) : GAt false P w K mg base 3 "is_kind" s_is_kind ["thing"] g_is_kind := g_at T.d_is_kind sc_is_kind fun f cd A outer s H E hcd hG hr => by
    have nd := sc_is_kind.nd
    exact (fss_one (fs_ret (fe_or (fe_callD (ok_is_name T) (fun z => nomatch z) (hr.mono (by decide)) rfl (takes_of rfl rfl rfl rfl) (fa_cons (fe_var 0) fa_nil)) (fe_one (fe_callD (ok_is_range T) (fun z => nomatch z) (hr.mono (by decide)) rfl (takes_of rfl rfl rfl rfl) (fa_cons (fe_var 0) fa_nil))))))
abbrev N_is_form : List Str := ["thing", "_", "kind"]
theorem sc_is_form : FnScope ["thing", "_", "kind"] ["thing"] (defScope s_is_form) := ⟨rfl, rfl, rfl, by decide +kernel, rfl, by decide +kernel, by decide +kernel⟩
theorem ok_is_form (T : Tx K mg base) : GAt false P w K mg base 4 "is_form" s_is_form ["thing"] g_is_form := g_at T.d_is_form sc_is_form fun f cd A outer s H E hcd hG hr => by
    have nd := sc_is_form.nd
    exact (fss_one (fs_ret (fe_and (fe_callD (ok_are_named T) (fun z => nomatch z) (hr.mono (by decide)) rfl (takes_of rfl rfl rfl rfl) (fa_cons (fe_var 0) fa_nil)) (fe_one (fe_callB (cf_all rfl) rfl T.b_all bo_all (fa_cons (fe_lc (own := [("_", 1), ("kind", 2)]) kp_L rfl nd (fi_seq (fe_var 0)) (blkOk_by (N := N_is_form) (sc := defScope s_is_form) (by decide +kernel)) (by decide) (fun s2 H2 C2 cl2 fp2 => (fg_tup rfl (fgs_cons (fg_name (i := 1) nd rfl (by first | exact Or.inl rfl | exact Or.inr rfl)) (fgs_cons (fg_name (i := 2) nd rfl (by first | exact Or.inl rfl | exact Or.inr rfl)) fgs_nil)))) (fun s2 H2 C2 cl2 fp2 => pts_no rfl) (fun s2 H2 C2 cl2 fp2 => (fe_callD (ok_is_kind T) (fun z => nomatch z) (hr.mono (by decide)) rfl tk0 (fa_cons (fe_var 2) fa_nil)))) fa_nil))))))
abbrev N_is_schema : List Str := ["thing", "_", "form", "classes", "cls"]
theorem sc_is_schema : FnScope ["thing", "_", "form", "classes", "cls"] ["thing"] (defScope s_is_schema) := ⟨rfl, rfl, rfl, by decide +kernel, rfl, by decide +kernel, by decide +kernel⟩
theorem ok_is_schema (T : Tx K mg base) : GAt false P w K mg base 5 "is_schema" s_is_schema ["thing"] g_is_schema := g_at T.d_is_schema sc_is_schema fun f cd A outer s H E hcd hG hr => by
    have nd := sc_is_schema.nd
    exact (fss_cons (fs_if (FW.ft (fw_or (ft_not (ft_val (fe_callD (ok_are_named T) (fun z => nomatch z) (hr.mono (by decide)) rfl (takes_of rfl rfl rfl rfl) (fa_cons (fe_var 0) fa_nil)))) (fw_or1 (ft_cmp (of_eq (hu64 hr)) (fe_callB cf_len rfl T.b_len bo_len (fa_cons (fe_var 0) fa_nil)) fe_int (by rfl))))) (fss_one (fs_ret fe_bl)) fss_nil)
      (fss_cons (fs_if (ft_not (ft_val (fe_callB (cf_all rfl) rfl T.b_all bo_all (fa_cons (fe_lc (own := [("_", 1), ("form", 2)]) kp_L rfl nd (fi_seq (fe_var 0)) (blkOk_by (N := N_is_schema) (sc := defScope s_is_schema) (by decide +kernel)) (by decide) (fun s2 H2 C2 cl2 fp2 => (fg_tup rfl (fgs_cons (fg_name (i := 1) nd rfl (by first | exact Or.inl rfl | exact Or.inr rfl)) (fgs_cons (fg_name (i := 2) nd rfl (by first | exact Or.inl rfl | exact Or.inr rfl)) fgs_nil)))) (fun s2 H2 C2 cl2 fp2 => pts_no rfl) (fun s2 H2 C2 cl2 fp2 => (fe_callD (ok_is_form T) (fun z => nomatch z) (hr.mono (by decide)) rfl tk0 (fa_cons (fe_var 2) fa_nil)))) fa_nil)))) (fss_one (fs_ret fe_bl)) fss_nil)
      (fss_cons (fs_set (i := 3) nd rfl (by first | exact Or.inl rfl | exact Or.inr rfl) (fe_lc (own := [("cls", 4), ("_", 1)]) kp_L rfl nd (fi_seq (fe_var 0)) (blkOk_by (N := N_is_schema) (sc := defScope s_is_schema) (by decide +kernel)) (by decide) (fun s2 H2 C2 cl2 fp2 => (fg_tup rfl (fgs_cons (fg_name (i := 4) nd rfl (by first | exact Or.inl rfl | exact Or.inr rfl)) (fgs_cons (fg_name (i := 1) nd rfl (by first | exact Or.inl rfl | exact Or.inr rfl)) fgs_nil)))) (fun s2 H2 C2 cl2 fp2 => pts_no rfl) (fun s2 H2 C2 cl2 fp2 => (fe_var 4))))
      (fss_one (fs_ret (fe_callB (cf_all rfl) rfl T.b_all bo_all (fa_cons (fe_lc (own := [("_", 1), ("form", 2)]) kp_L rfl nd (fi_seq (fe_var 0)) (blkOk_by (N := N_is_schema) (sc := defScope s_is_schema) (by decide +kernel)) (by decide) (fun s2 H2 C2 cl2 fp2 => (fg_tup rfl (fgs_cons (fg_name (i := 1) nd rfl (by first | exact Or.inl rfl | exact Or.inr rfl)) (fgs_cons (fg_name (i := 2) nd rfl (by first | exact Or.inl rfl | exact Or.inr rfl)) fgs_nil)))) (fun s2 H2 C2 cl2 fp2 => pts_no rfl) (fun s2 H2 C2 cl2 fp2 => (fe_callD (ok_links_lead T) (fun z => nomatch z) (hr.mono (by decide)) rfl tk0 (fa_cons (fe_var 2) (fa_cons (fe_var 3) fa_nil))))) fa_nil)))))))
abbrev N_is_number : List Str := ["thing"]
theorem sc_is_number : FnScope ["thing"] ["thing"] (defScope s_is_number) := ⟨rfl, rfl, rfl, by decide +kernel, rfl, by decide +kernel, by decide +kernel⟩
theorem ok_is_number (T : Tx K mg base) : GAt false P w K mg base 2 "is_number" s_is_number ["thing"] g_is_number := g_at T.d_is_number sc_is_number fun f cd A outer s H E hcd hG hr => by
    have nd := sc_is_number.nd
    exact (fss_one (fs_ret (fe_and (fe_callD (ok_is_integer T) (fun z => nomatch z) (hr.mono (by decide)) rfl (takes_of rfl rfl rfl rfl) (fa_cons (fe_var 0) fa_nil)) (fe_one (fe_cmp of_ge (fe_var 0) fe_int (by rfl))))))
abbrev N_is_row : List Str := ["row"]
theorem sc_is_row : FnScope ["row"] ["row"] (defScope s_is_row) := ⟨rfl, rfl, rfl, by decide +kernel, rfl, by decide +kernel, by decide +kernel⟩
theorem ok_is_row (T : Tx K mg base) : GAt false P w K mg base 3 "is_row" s_is_row ["row"] g_is_row := g_at T.d_is_row sc_is_row fun f cd A outer s H E hcd hG hr => by
    have nd := sc_is_row.nd
    exact (fss_cons (fs_if (FW.ft (fw_or (ft_not (ft_val (fe_isi (T := "tuple") rfl (by decide) rfl T.b_isinstance rfl T.b_tuple bo_tuple bo_isinstance (fe_var 0)))) (fw_or1 (ft_cmp (of_ne (hu64 hr)) (fe_callB cf_len rfl T.b_len bo_len (fa_cons (fe_var 0) fa_nil)) fe_int (by rfl))))) (fss_one (fs_ret fe_bl)) fss_nil)
      (fss_one (fs_ret (fe_and (fe_callD (ok_is_number T) (fun z => nomatch z) (hr.mono (by decide)) rfl (takes_of rfl rfl rfl rfl) (fa_cons (fe_ix (fe_var 0) fe_int (by intro _ _; rfl)) fa_nil)) (fe_and (fe_callD (ok_is_name T) (fun z => nomatch z) (hr.mono (by decide)) rfl (takes_of rfl rfl rfl rfl) (fa_cons (fe_ix (fe_var 0) fe_int (by intro _ _; rfl)) fa_nil)) (fe_one (fe_isi (T := "tuple") rfl (by decide) rfl T.b_isinstance rfl T.b_tuple bo_tuple bo_isinstance (fe_ix (fe_var 0) fe_int (by intro _ _; rfl)))))))))
abbrev N_has_shape : List Str := ["thing", "schema", "limit", "objects", "row"]
theorem sc_has_shape : FnScope ["thing", "schema", "limit", "objects", "row"] ["thing"] (defScope s_has_shape) := ⟨rfl, rfl, rfl, by decide +kernel, rfl, by decide +kernel, by decide +kernel⟩
theorem ok_has_shape (T : Tx K mg base) : GAt false P w K mg base 6 "has_shape" s_has_shape ["thing"] g_has_shape := g_at T.d_has_shape sc_has_shape fun f cd A outer s H E hcd hG hr => by
    have nd := sc_has_shape.nd
    exact (fss_cons (fs_if (FW.ft (fw_or (ft_not (ft_val (fe_isi (T := "tuple") rfl (by decide) rfl T.b_isinstance rfl T.b_tuple bo_tuple bo_isinstance (fe_var 0)))) (fw_or1 (ft_cmp (of_ne (hu64 hr)) (fe_callB cf_len rfl T.b_len bo_len (fa_cons (fe_var 0) fa_nil)) fe_int (by rfl))))) (fss_one (fs_ret fe_bl)) fss_nil)
      (fss_cons (fs_asg (fe_var 0) (fg_tup rfl (fgs_cons (fg_name (i := 1) nd rfl (by first | exact Or.inl rfl | exact Or.inr rfl)) (fgs_cons (fg_name (i := 2) nd rfl (by first | exact Or.inl rfl | exact Or.inr rfl)) (fgs_cons (fg_name (i := 3) nd rfl (by first | exact Or.inl rfl | exact Or.inr rfl)) fgs_nil)))))
      (fss_cons (fs_if (FW.ft (fw_or (ft_not (ft_val (fe_callD (ok_is_schema T) (fun z => nomatch z) (hr.mono (by decide)) rfl (takes_of rfl rfl rfl rfl) (fa_cons (fe_var 1) fa_nil)))) (fw_or (ft_not (ft_val (fe_callD (ok_is_number T) (fun z => nomatch z) (hr.mono (by decide)) rfl (takes_of rfl rfl rfl rfl) (fa_cons (fe_var 2) fa_nil)))) (fw_or1 (ft_not (ft_val (fe_isi (T := "tuple") rfl (by decide) rfl T.b_isinstance rfl T.b_tuple bo_tuple bo_isinstance (fe_var 3)))))))) (fss_one (fs_ret fe_bl)) fss_nil)
      (fss_one (fs_ret (fe_callB (cf_all rfl) rfl T.b_all bo_all (fa_cons (fe_lc (own := [("row", 4)]) kp_L rfl nd (fi_seq (fe_var 3)) (blkOk_by (N := N_has_shape) (sc := defScope s_has_shape) (by decide +kernel)) (by decide) (fun s2 H2 C2 cl2 fp2 => (fg_name (i := 4) nd rfl (by first | exact Or.inl rfl | exact Or.inr rfl))) (fun s2 H2 C2 cl2 fp2 => pts_no rfl) (fun s2 H2 C2 cl2 fp2 => (fe_callD (ok_is_row T) (fun z => nomatch z) (hr.mono (by decide)) rfl tk0 (fa_cons (fe_var 4) fa_nil)))) fa_nil)))))))
abbrev N_in_range : List Str := ["kind", "value"]
theorem sc_in_range : FnScope ["kind", "value"] ["kind", "value"] (defScope s_in_range) := ⟨rfl, rfl, rfl, by decide +kernel, rfl, by decide +kernel, by decide +kernel⟩
theorem ok_in_range (T : Tx K mg base) : GAt false P w K mg base 2 "in_range" s_in_range ["kind", "value"] g_in_range := g_at T.d_in_range sc_in_range fun f cd A outer s H E hcd hG hr => by
    have nd := sc_in_range.nd
    exact (fss_one (fs_ret (fe_and (fe_callD (ok_is_integer T) (fun z => nomatch z) (hr.mono (by decide)) rfl (takes_of rfl rfl rfl rfl) (fa_cons (fe_var 1) fa_nil)) (fe_one (fe_chain of_le of_le (fe_ix (fe_var 0) fe_int (by intro _ _; rfl)) (fe_var 1) (fe_ix (fe_var 0) fe_int (by intro _ _; rfl)))))))
abbrev N_could_suit : List Str := ["kind", "value"]
theorem sc_could_suit : FnScope ["kind", "value"] ["kind", "value"] (defScope s_could_suit) := ⟨rfl, rfl, rfl, by decide +kernel, rfl, by decide +kernel, by decide +kernel⟩
theorem ok_could_suit (T : Tx K mg base) : GAt false P w K mg base 3 "could_suit" s_could_suit ["kind", "value"] g_could_suit := g_at T.d_could_suit sc_could_suit fun f cd A outer s H E hcd hG hr => by
    have nd := sc_could_suit.nd
    exact (fss_cons (fs_if (ft_val (fe_callD (ok_is_link T) (fun z => nomatch z) (hr.mono (by decide)) rfl (takes_of rfl rfl rfl rfl) (fa_cons (fe_var 0) fa_nil))) (fss_one (fs_ret (fe_or (fe_cmp of_is (fe_var 1) fe_non (by rfl)) (fe_one (fe_callD (ok_is_number T) (fun z => nomatch z) (hr.mono (by decide)) rfl (takes_of rfl rfl rfl rfl) (fa_cons (fe_var 1) fa_nil)))))) fss_nil)
      (fss_one (fs_ret (fe_callD (ok_in_range T) (fun z => nomatch z) (hr.mono (by decide)) rfl (takes_of rfl rfl rfl rfl) (fa_cons (fe_var 0) (fa_cons (fe_var 1) fa_nil))))))
abbrev N_check_object : List Str := ["schema", "k", "row", "_", "cls", "values", "form", "j", "kind"]
theorem sc_check_object : FnScope ["schema", "k", "row", "_", "cls", "values", "form", "j", "kind"] ["schema", "k", "row"] (defScope s_check_object) := ⟨rfl, rfl, rfl, by decide +kernel, rfl, by decide +kernel, by decide +kernel⟩
theorem ok_check_object (T : Tx K mg base) : GAt false P w K mg base 4 "check_object" s_check_object ["schema", "k", "row"] g_check_object := g_at T.d_check_object sc_check_object fun f cd A outer s H E hcd hG hr => by
    have nd := sc_check_object.nd
    exact (fss_cons (fs_asg (fe_var 2) (fg_tup rfl (fgs_cons (fg_name (i := 3) nd rfl (by first | exact Or.inl rfl | exact Or.inr rfl)) (fgs_cons (fg_name (i := 4) nd rfl (by first | exact Or.inl rfl | exact Or.inr rfl)) (fgs_cons (fg_name (i := 5) nd rfl (by first | exact Or.inl rfl | exact Or.inr rfl)) fgs_nil)))))
      (fss_cons (fs_set (i := 6) nd rfl (by first | exact Or.inl rfl | exact Or.inr rfl) (fe_callD (ok_form_of T) (fun z => nomatch z) (hr.mono (by decide)) rfl (takes_of rfl rfl rfl rfl) (fa_cons (fe_var 0) (fa_cons (fe_var 4) fa_nil))))
      (fss_cons (fs_if (ft_cmp of_is (fe_var 6) fe_non (by rfl)) (fss_one (fs_raise2 (x := "InvalidPaper") (f := "word") (g := "at") (k := 0) T.x_InvalidPaper rfl (takes_of rfl rfl rfl rfl) (hr.mono (by decide)) rfl (fa_cons fe_str (fa_cons (fe_var 1) fa_nil)))) fss_nil)
      (fss_cons (fs_if (ft_cmp (of_ne (hu64 hr)) (fe_callB cf_len rfl T.b_len bo_len (fa_cons (fe_var 5) fa_nil)) (fe_callB cf_len rfl T.b_len bo_len (fa_cons (fe_var 6) fa_nil)) (by rfl)) (fss_one (fs_raise2 (x := "InvalidPaper") (f := "word") (g := "at") (k := 0) T.x_InvalidPaper rfl (takes_of rfl rfl rfl rfl) (hr.mono (by decide)) rfl (fa_cons fe_str (fa_cons (fe_var 1) fa_nil)))) fss_nil)
      (fss_one (fs_for (passes_of rfl) rfl (fi_enu rfl T.b_enumerate (fa_cons (fe_var 6) fa_nil)) (fg_tup rfl (fgs_cons (fg_name (i := 7) nd rfl (by first | exact Or.inl rfl | exact Or.inr rfl)) (fgs_cons (fg_tup rfl (fgs_cons (fg_name (i := 3) nd rfl (by first | exact Or.inl rfl | exact Or.inr rfl)) (fgs_cons (fg_name (i := 8) nd rfl (by first | exact Or.inl rfl | exact Or.inr rfl)) fgs_nil))) fgs_nil))) (fss_one (fs_if (ft_not (ft_val (fe_callD (ok_could_suit T) (fun z => nomatch z) (hr.mono (by decide)) rfl (takes_of rfl rfl rfl rfl) (fa_cons (fe_var 8) (fa_cons (fe_ix (fe_var 5) (fe_var 7) (by intro _ _; rfl)) fa_nil))))) (fss_one (fs_raise2 (x := "InvalidPaper") (f := "word") (g := "at") (k := 0) T.x_InvalidPaper rfl (takes_of rfl rfl rfl rfl) (hr.mono (by decide)) rfl (fa_cons fe_str (fa_cons (fe_tup (fa_cons (fe_var 1) (fa_cons (fe_var 7) fa_nil))) fa_nil)))) fss_nil))))))))
abbrev N_lets_plain : List Str := ["thing", "schema", "limit", "objects", "before", "k", "row"]
theorem sc_lets_plain : FnScope ["thing", "schema", "limit", "objects", "before", "k", "row"] ["thing"] (defScope s_lets_plain) := ⟨rfl, rfl, rfl, by decide +kernel, rfl, by decide +kernel, by decide +kernel⟩
theorem ok_lets_plain (T : Tx K mg base) : GAt false P w K mg base 7 "lets_plain" s_lets_plain ["thing"] g_lets_plain := g_at T.d_lets_plain sc_lets_plain fun f cd A outer s H E hcd hG hr => by
    have nd := sc_lets_plain.nd
    exact (fss_cons (fs_if (ft_not (ft_val (fe_callD (ok_has_shape T) (fun z => nomatch z) (hr.mono (by decide)) rfl (takes_of rfl rfl rfl rfl) (fa_cons (fe_var 0) fa_nil)))) (fss_one (fs_raise2 (x := "InvalidPaper") (f := "word") (g := "at") (k := 0) T.x_InvalidPaper rfl (takes_of rfl rfl rfl rfl) (hr.mono (by decide)) rfl (fa_cons fe_str (fa_cons (fe_un of_neg fe_int) fa_nil)))) fss_nil)
      (fss_cons (fs_asg (fe_var 0) (fg_tup rfl (fgs_cons (fg_name (i := 1) nd rfl (by first | exact Or.inl rfl | exact Or.inr rfl)) (fgs_cons (fg_name (i := 2) nd rfl (by first | exact Or.inl rfl | exact Or.inr rfl)) (fgs_cons (fg_name (i := 3) nd rfl (by first | exact Or.inl rfl | exact Or.inr rfl)) fgs_nil)))))
      (fss_cons (fs_set (i := 4) nd rfl (by first | exact Or.inl rfl | exact Or.inr rfl) (fe_un of_neg fe_int))
      (fss_cons (fs_for (passes_of rfl) rfl (fi_enu rfl T.b_enumerate (fa_cons (fe_var 3) fa_nil)) (fg_tup rfl (fgs_cons (fg_name (i := 5) nd rfl (by first | exact Or.inl rfl | exact Or.inr rfl)) (fgs_cons (fg_name (i := 6) nd rfl (by first | exact Or.inl rfl | exact Or.inr rfl)) fgs_nil))) (fss_cons (fs_if (ft_not (ft_chain of_lt of_lt (fe_var 4) (fe_ix (fe_var 6) fe_int (by intro _ _; rfl)) (fe_var 2))) (fss_one (fs_raise2 (x := "InvalidPaper") (f := "word") (g := "at") (k := 0) T.x_InvalidPaper rfl (takes_of rfl rfl rfl rfl) (hr.mono (by decide)) rfl (fa_cons fe_str (fa_cons (fe_var 5) fa_nil)))) fss_nil)
      (fss_cons (fs_expr (fe_callD (ok_check_object T) (fun z => nomatch z) (hr.mono (by decide)) rfl (takes_of rfl rfl rfl rfl) (fa_cons (fe_var 1) (fa_cons (fe_var 5) (fa_cons (fe_var 6) fa_nil)))))
      (fss_one (fs_set (i := 4) nd rfl (by first | exact Or.inl rfl | exact Or.inr rfl) (fe_ix (fe_var 6) fe_int (by intro _ _; rfl)))))))
      (fss_cons (fs_expr (fe_callD (ok_check_links T) (fun z => nomatch z) (hr.mono (by decide)) rfl (takes_of rfl rfl rfl rfl) (fa_cons (fe_var 1) (fa_cons (fe_var 3) fa_nil))))
      (fss_one (fs_ret (fe_tup (fa_cons (fe_callB cf_len rfl T.b_len bo_len (fa_cons (fe_var 1) fa_nil)) (fa_cons (fe_callB cf_len rfl T.b_len bo_len (fa_cons (fe_var 3) fa_nil)) fa_nil))))))))))
abbrev N_is_plain : List Str := ["thing"]
theorem sc_is_plain : FnScope ["thing"] ["thing"] (defScope s_is_plain) := ⟨rfl, rfl, rfl, by decide +kernel, rfl, by decide +kernel, by decide +kernel⟩
theorem ok_is_plain (T : Tx K mg base) : GAt false P w K mg base 8 "is_plain" s_is_plain ["thing"] g_is_plain := g_at T.d_is_plain sc_is_plain fun f cd A outer s H E hcd hG hr => by
    have nd := sc_is_plain.nd
    obtain ⟨CL_InvalidPaper, CLm_InvalidPaper, CLs_InvalidPaper⟩ := T.n_InvalidPaper
    exact (fss_cons (fs_try_only tabs_InvalidPaper CLs_InvalidPaper rfl rfl ⟨rfl, by decide, Or.inl CLm_InvalidPaper⟩ (takes_of rfl rfl rfl rfl) (fun W pn xe tk hp => (fss_one (fs_expr (fe_callD (ok_lets_plain T) (fun z => nomatch z) (hr.mono (by decide)) rfl tk (fa_cons (fe_var 0) fa_nil))))) (fun a oe pn => (fss_one (fs_ret fe_bl))))
      (fss_one (fs_ret fe_bl)))
abbrev N_law_rises : List Str := ["_law_some", "_law_k"]
theorem sc_law_rises : FnScope ["_law_some", "_law_k"] ["_law_some"] (defScope s_law_rises) := ⟨rfl, rfl, rfl, by decide +kernel, rfl, by decide +kernel, by decide +kernel⟩
theorem ok_law_rises (T : Tx K mg base) : GAt false P w K mg base 1 "_law_rises" s_law_rises ["_law_some"] g_law_rises := g_at T.d_law_rises sc_law_rises fun f cd A outer s H E hcd hG hr => by
    have nd := sc_law_rises.nd
    exact (fss_one (fs_ret (fe_cmp (of_eq (hu64 hr)) (fe_lc (own := [("_law_k", 1)]) kp_L rfl nd (fi_range2 rfl T.b_range (fa_cons fe_int (fa_cons (fe_callB cf_len rfl T.b_len bo_len (fa_cons (fe_var 0) fa_nil)) fa_nil))) (blkOk_by (N := N_law_rises) (sc := defScope s_law_rises) (by decide +kernel)) (by decide) (fun s2 H2 C2 cl2 fp2 => (fg_name (i := 1) nd rfl (by first | exact Or.inl rfl | exact Or.inr rfl))) (fun s2 H2 C2 cl2 fp2 => pts_if (ft_cmp of_ge (fe_ix (fe_var 0) (fe_bin of_sub (fe_var 1) fe_int) (by intro _ _; rfl)) (fe_ix (fe_var 0) (fe_var 1) (by intro _ _; rfl)) (by rfl))) (fun s2 H2 C2 cl2 fp2 => (fe_var 1))) (fe_lst fa_nil) (by rfl))))
abbrev N_law_named : List Str := ["_law_item", "_law_sign"]
theorem sc_law_named : FnScope ["_law_item", "_law_sign"] ["_law_item"] (defScope s_law_named) := ⟨rfl, rfl, rfl, by decide +kernel, rfl, by decide +kernel, by decide +kernel⟩
theorem ok_law_named (T : Tx K mg base) : GAt false P w K mg base 1 "_law_named" s_law_named ["_law_item"] g_law_named := g_at T.d_law_named sc_law_named fun f cd A outer s H E hcd hG hr => by
    have nd := sc_law_named.nd
    exact (fss_cons (fs_if (FW.ft (fw_or (ft_not (ft_val (fe_isi (T := "str") rfl (by decide) rfl T.b_isinstance rfl T.b_str bo_str bo_isinstance (fe_var 0)))) (fw_or1 (ft_not (ft_chain of_lt of_lt fe_int (fe_callB cf_len rfl T.b_len bo_len (fa_cons (fe_var 0) fa_nil)) fe_int))))) (fss_one (fs_ret fe_bl)) fss_nil)
      (fss_one (fs_ret (fe_cmp (of_eq (hu64 hr)) (fe_lc (own := [("_law_sign", 1)]) kp_L rfl nd (fi_seq (fe_var 0)) (blkOk_by (N := N_law_named) (sc := defScope s_law_named) (by decide +kernel)) (by decide) (fun s2 H2 C2 cl2 fp2 => (fg_name (i := 1) nd rfl (by first | exact Or.inl rfl | exact Or.inr rfl))) (fun s2 H2 C2 cl2 fp2 => pts_if (ft_not (ft_chain of_le of_le fe_int (fe_callB cf_ord rfl T.b_ord bo_ord (fa_cons (fe_var 1) fa_nil)) fe_int))) (fun s2 H2 C2 cl2 fp2 => (fe_var 1))) (fe_lst fa_nil) (by rfl)))))
abbrev N_law_pairs_of : List Str := ["_law_item", "_law_one"]
theorem sc_law_pairs_of : FnScope ["_law_item", "_law_one"] ["_law_item"] (defScope s_law_pairs_of) := ⟨rfl, rfl, rfl, by decide +kernel, rfl, by decide +kernel, by decide +kernel⟩
theorem ok_law_pairs_of (T : Tx K mg base) : GAt false P w K mg base 2 "_law_pairs_of" s_law_pairs_of ["_law_item"] g_law_pairs_of := g_at T.d_law_pairs_of sc_law_pairs_of fun f cd A outer s H E hcd hG hr => by
    have nd := sc_law_pairs_of.nd
    exact (fss_cons (fs_if (ft_not (ft_val (fe_isi (T := "tuple") rfl (by decide) rfl T.b_isinstance rfl T.b_tuple bo_tuple bo_isinstance (fe_var 0)))) (fss_one (fs_ret fe_bl)) fss_nil)
      (fss_cons (fs_for (passes_of rfl) rfl (fi_seq (fe_var 0)) (fg_name (i := 1) nd rfl (by first | exact Or.inl rfl | exact Or.inr rfl)) (fss_one (fs_if (FW.ft (fw_or (ft_not (ft_val (fe_isi (T := "tuple") rfl (by decide) rfl T.b_isinstance rfl T.b_tuple bo_tuple bo_isinstance (fe_var 1)))) (fw_or (ft_cmp (of_ne (hu64 hr)) (fe_callB cf_len rfl T.b_len bo_len (fa_cons (fe_var 1) fa_nil)) fe_int (by rfl)) (fw_or1 (ft_not (ft_val (fe_callD (ok_law_named T) (fun z => nomatch z) (hr.mono (by decide)) rfl (takes_of rfl rfl rfl rfl) (fa_cons (fe_ix (fe_var 1) fe_int (by intro _ _; rfl)) fa_nil)))))))) (fss_one (fs_ret fe_bl)) fss_nil)))
      (fss_one (fs_ret (fe_callD (ok_law_rises T) (fun z => nomatch z) (hr.mono (by decide)) rfl (takes_of rfl rfl rfl rfl) (fa_cons (fe_lc (own := [("_law_one", 1)]) kp_L rfl nd (fi_seq (fe_var 0)) (blkOk_by (N := N_law_pairs_of) (sc := defScope s_law_pairs_of) (by decide +kernel)) (by decide) (fun s2 H2 C2 cl2 fp2 => (fg_name (i := 1) nd rfl (by first | exact Or.inl rfl | exact Or.inr rfl))) (fun s2 H2 C2 cl2 fp2 => pts_no rfl) (fun s2 H2 C2 cl2 fp2 => (fe_ix (fe_var 1) fe_int (by intro _ _; rfl)))) fa_nil))))))
abbrev N_law_integer : List Str := ["_law_item"]
theorem sc_law_integer : FnScope ["_law_item"] ["_law_item"] (defScope s_law_integer) := ⟨rfl, rfl, rfl, by decide +kernel, rfl, by decide +kernel, by decide +kernel⟩
theorem ok_law_integer (T : Tx K mg base) : GAt false P w K mg base 1 "_law_integer" s_law_integer ["_law_item"] g_law_integer := g_at T.d_law_integer sc_law_integer fun f cd A outer s H E hcd hG hr => by
    have nd := sc_law_integer.nd
    exact (fss_one (fs_ret (fe_and (fe_isi (T := "int") rfl (by decide) rfl T.b_isinstance rfl T.b_int bo_int bo_isinstance (fe_var 0)) (fe_one (fe_not (fe_isi (T := "bool") rfl (by decide) rfl T.b_isinstance rfl T.b_bool bo_bool bo_isinstance (fe_var 0)))))))
abbrev N_law_kinded : List Str := ["_law_item"]
theorem sc_law_kinded : FnScope ["_law_item"] ["_law_item"] (defScope s_law_kinded) := ⟨rfl, rfl, rfl, by decide +kernel, rfl, by decide +kernel, by decide +kernel⟩
theorem ok_law_kinded (T : Tx K mg base) : GAt false P w K mg base 2 "_law_kinded" s_law_kinded ["_law_item"] g_law_kinded := g_at T.d_law_kinded sc_law_kinded fun f cd A outer s H E hcd hG hr => by
    have nd := sc_law_kinded.nd
    exact (fss_cons (fs_if (ft_val (fe_isi (T := "str") rfl (by decide) rfl T.b_isinstance rfl T.b_str bo_str bo_isinstance (fe_var 0))) (fss_one (fs_ret (fe_callD (ok_law_named T) (fun z => nomatch z) (hr.mono (by decide)) rfl (takes_of rfl rfl rfl rfl) (fa_cons (fe_var 0) fa_nil)))) fss_nil)
      (fss_cons (fs_if (FW.ft (fw_or (ft_not (ft_val (fe_isi (T := "tuple") rfl (by decide) rfl T.b_isinstance rfl T.b_tuple bo_tuple bo_isinstance (fe_var 0)))) (fw_or (ft_cmp (of_ne (hu64 hr)) (fe_callB cf_len rfl T.b_len bo_len (fa_cons (fe_var 0) fa_nil)) fe_int (by rfl)) (fw_or1 (ft_not (ft_val (fe_callD (ok_law_integer T) (fun z => nomatch z) (hr.mono (by decide)) rfl (takes_of rfl rfl rfl rfl) (fa_cons (fe_ix (fe_var 0) fe_int (by intro _ _; rfl)) fa_nil)))))))) (fss_one (fs_ret fe_bl)) fss_nil)
      (fss_one (fs_ret (fe_and (fe_callD (ok_law_integer T) (fun z => nomatch z) (hr.mono (by decide)) rfl (takes_of rfl rfl rfl rfl) (fa_cons (fe_ix (fe_var 0) fe_int (by intro _ _; rfl)) fa_nil)) (fe_one (fe_cmp of_le (fe_ix (fe_var 0) fe_int (by intro _ _; rfl)) (fe_ix (fe_var 0) fe_int (by intro _ _; rfl)) (by rfl))))))))
abbrev N_law_formed : List Str := ["_law_item", "_law_one"]
theorem sc_law_formed : FnScope ["_law_item", "_law_one"] ["_law_item"] (defScope s_law_formed) := ⟨rfl, rfl, rfl, by decide +kernel, rfl, by decide +kernel, by decide +kernel⟩
theorem ok_law_formed (T : Tx K mg base) : GAt false P w K mg base 3 "_law_formed" s_law_formed ["_law_item"] g_law_formed := g_at T.d_law_formed sc_law_formed fun f cd A outer s H E hcd hG hr => by
    have nd := sc_law_formed.nd
    exact (fss_one (fs_ret (fe_and (fe_callD (ok_law_pairs_of T) (fun z => nomatch z) (hr.mono (by decide)) rfl (takes_of rfl rfl rfl rfl) (fa_cons (fe_var 0) fa_nil)) (fe_one (fe_cmp (of_eq (hu64 hr)) (fe_lc (own := [("_law_one", 1)]) kp_L rfl nd (fi_seq (fe_var 0)) (blkOk_by (N := N_law_formed) (sc := defScope s_law_formed) (by decide +kernel)) (by decide) (fun s2 H2 C2 cl2 fp2 => (fg_name (i := 1) nd rfl (by first | exact Or.inl rfl | exact Or.inr rfl))) (fun s2 H2 C2 cl2 fp2 => pts_if (ft_not (ft_val (fe_callD (ok_law_kinded T) (fun z => nomatch z) (hr.mono (by decide)) rfl tk0 (fa_cons (fe_ix (fe_var 1) fe_int (by intro _ _; rfl)) fa_nil))))) (fun s2 H2 C2 cl2 fp2 => (fe_var 1))) (fe_lst fa_nil) (by rfl))))))
abbrev N_law_schemed : List Str := ["_law_item", "_law_names", "_law_one", "_law_title", "_law_entries", "_law_slot", "_law_sort"]
theorem sc_law_schemed : FnScope ["_law_item", "_law_names", "_law_one", "_law_title", "_law_entries", "_law_slot", "_law_sort"] ["_law_item"] (defScope s_law_schemed) := ⟨rfl, rfl, rfl, by decide +kernel, rfl, by decide +kernel, by decide +kernel⟩
theorem ok_law_schemed (T : Tx K mg base) : GAt false P w K mg base 4 "_law_schemed" s_law_schemed ["_law_item"] g_law_schemed := g_at T.d_law_schemed sc_law_schemed fun f cd A outer s H E hcd hG hr => by
    have nd := sc_law_schemed.nd
    exact (fss_cons (fs_if (FW.ft (fw_or (ft_not (ft_val (fe_callD (ok_law_pairs_of T) (fun z => nomatch z) (hr.mono (by decide)) rfl (takes_of rfl rfl rfl rfl) (fa_cons (fe_var 0) fa_nil)))) (fw_or1 (ft_cmp (of_eq (hu64 hr)) (fe_var 0) (fe_tup fa_nil) (by rfl))))) (fss_one (fs_ret fe_bl)) fss_nil)
      (fss_cons (fs_set (i := 1) nd rfl (by first | exact Or.inl rfl | exact Or.inr rfl) (fe_lc (own := [("_law_one", 2)]) kp_L rfl nd (fi_seq (fe_var 0)) (blkOk_by (N := N_law_schemed) (sc := defScope s_law_schemed) (by decide +kernel)) (by decide) (fun s2 H2 C2 cl2 fp2 => (fg_name (i := 2) nd rfl (by first | exact Or.inl rfl | exact Or.inr rfl))) (fun s2 H2 C2 cl2 fp2 => pts_no rfl) (fun s2 H2 C2 cl2 fp2 => (fe_ix (fe_var 2) fe_int (by intro _ _; rfl)))))
      (fss_cons (fs_for (passes_of rfl) rfl (fi_seq (fe_var 0)) (fg_tup rfl (fgs_cons (fg_name (i := 3) nd rfl (by first | exact Or.inl rfl | exact Or.inr rfl)) (fgs_cons (fg_name (i := 4) nd rfl (by first | exact Or.inl rfl | exact Or.inr rfl)) fgs_nil))) (fss_cons (fs_if (ft_not (ft_val (fe_callD (ok_law_formed T) (fun z => nomatch z) (hr.mono (by decide)) rfl (takes_of rfl rfl rfl rfl) (fa_cons (fe_var 4) fa_nil)))) (fss_one (fs_ret fe_bl)) fss_nil)
      (fss_one (fs_if (ft_cmp (of_ne (hu64 hr)) (fe_lc (own := [("_law_slot", 5), ("_law_sort", 6)]) kp_L rfl nd (fi_seq (fe_var 4)) (blkOk_by (N := N_law_schemed) (sc := defScope s_law_schemed) (by decide +kernel)) (by decide) (fun s2 H2 C2 cl2 fp2 => (fg_tup rfl (fgs_cons (fg_name (i := 5) nd rfl (by first | exact Or.inl rfl | exact Or.inr rfl)) (fgs_cons (fg_name (i := 6) nd rfl (by first | exact Or.inl rfl | exact Or.inr rfl)) fgs_nil)))) (fun s2 H2 C2 cl2 fp2 => pts_if (FW.ft (fw_and (ft_val (fe_isi (T := "str") rfl (by decide) rfl T.b_isinstance rfl T.b_str bo_str bo_isinstance (fe_var 6))) (fw_and1 (ft_cmp of_notin (fe_var 6) (fe_var 1) (by rfl)))))) (fun s2 H2 C2 cl2 fp2 => (fe_var 6))) (fe_lst fa_nil) (by rfl)) (fss_one (fs_ret fe_bl)) fss_nil))))
      (fss_one (fs_ret fe_bl)))))
abbrev N_law_has_shape : List Str := ["_law_item", "_law_one"]
theorem sc_law_has_shape : FnScope ["_law_item", "_law_one"] ["_law_item"] (defScope s_law_has_shape) := ⟨rfl, rfl, rfl, by decide +kernel, rfl, by decide +kernel, by decide +kernel⟩
theorem ok_law_has_shape (T : Tx K mg base) : GAt false P w K mg base 5 "_law_has_shape" s_law_has_shape ["_law_item"] g_law_has_shape := g_at T.d_law_has_shape sc_law_has_shape fun f cd A outer s H E hcd hG hr => by
    have nd := sc_law_has_shape.nd
    exact (fss_cons (fs_if (FW.ft (fw_or (ft_not (ft_val (fe_isi (T := "tuple") rfl (by decide) rfl T.b_isinstance rfl T.b_tuple bo_tuple bo_isinstance (fe_var 0)))) (fw_or (ft_cmp (of_ne (hu64 hr)) (fe_callB cf_len rfl T.b_len bo_len (fa_cons (fe_var 0) fa_nil)) fe_int (by rfl)) (fw_or1 (ft_not (ft_val (fe_callD (ok_law_schemed T) (fun z => nomatch z) (hr.mono (by decide)) rfl (takes_of rfl rfl rfl rfl) (fa_cons (fe_ix (fe_var 0) fe_int (by intro _ _; rfl)) fa_nil)))))))) (fss_one (fs_ret fe_bl)) fss_nil)
      (fss_cons (fs_if (FW.ft (fw_or (ft_not (ft_val (fe_callD (ok_law_integer T) (fun z => nomatch z) (hr.mono (by decide)) rfl (takes_of rfl rfl rfl rfl) (fa_cons (fe_ix (fe_var 0) fe_int (by intro _ _; rfl)) fa_nil)))) (fw_or (ft_cmp of_lt (fe_ix (fe_var 0) fe_int (by intro _ _; rfl)) fe_int (by rfl)) (fw_or1 (ft_not (ft_val (fe_isi (T := "tuple") rfl (by decide) rfl T.b_isinstance rfl T.b_tuple bo_tuple bo_isinstance (fe_ix (fe_var 0) fe_int (by intro _ _; rfl))))))))) (fss_one (fs_ret fe_bl)) fss_nil)
      (fss_cons (fs_for (passes_of rfl) rfl (fi_seq (fe_ix (fe_var 0) fe_int (by intro _ _; rfl))) (fg_name (i := 1) nd rfl (by first | exact Or.inl rfl | exact Or.inr rfl)) (fss_cons (fs_if (FW.ft (fw_or (ft_not (ft_val (fe_isi (T := "tuple") rfl (by decide) rfl T.b_isinstance rfl T.b_tuple bo_tuple bo_isinstance (fe_var 1)))) (fw_or (ft_cmp (of_ne (hu64 hr)) (fe_callB cf_len rfl T.b_len bo_len (fa_cons (fe_var 1) fa_nil)) fe_int (by rfl)) (fw_or (ft_not (ft_val (fe_callD (ok_law_integer T) (fun z => nomatch z) (hr.mono (by decide)) rfl (takes_of rfl rfl rfl rfl) (fa_cons (fe_ix (fe_var 1) fe_int (by intro _ _; rfl)) fa_nil)))) (fw_or1 (ft_cmp of_lt (fe_ix (fe_var 1) fe_int (by intro _ _; rfl)) fe_int (by rfl))))))) (fss_one (fs_ret fe_bl)) fss_nil)
      (fss_one (fs_if (FW.ft (fw_or (ft_not (ft_val (fe_callD (ok_law_named T) (fun z => nomatch z) (hr.mono (by decide)) rfl (takes_of rfl rfl rfl rfl) (fa_cons (fe_ix (fe_var 1) fe_int (by intro _ _; rfl)) fa_nil)))) (fw_or1 (ft_not (ft_val (fe_isi (T := "tuple") rfl (by decide) rfl T.b_isinstance rfl T.b_tuple bo_tuple bo_isinstance (fe_ix (fe_var 1) fe_int (by intro _ _; rfl)))))))) (fss_one (fs_ret fe_bl)) fss_nil))))
      (fss_one (fs_ret fe_bl)))))
abbrev N_law_value_ok : List Str := ["_law_sort", "_law_late"]
theorem sc_law_value_ok : FnScope ["_law_sort", "_law_late"] ["_law_sort", "_law_late"] (defScope s_law_value_ok) := ⟨rfl, rfl, rfl, by decide +kernel, rfl, by decide +kernel, by decide +kernel⟩
theorem ok_law_value_ok (T : Tx K mg base) : GAt false P w K mg base 2 "_law_value_ok" s_law_value_ok ["_law_sort", "_law_late"] g_law_value_ok := g_at T.d_law_value_ok sc_law_value_ok fun f cd A outer s H E hcd hG hr => by
    have nd := sc_law_value_ok.nd
    exact (fss_cons (fs_if (ft_val (fe_isi (T := "tuple") rfl (by decide) rfl T.b_isinstance rfl T.b_tuple bo_tuple bo_isinstance (fe_var 0))) (fss_one (fs_ret (fe_and (fe_callD (ok_law_integer T) (fun z => nomatch z) (hr.mono (by decide)) rfl (takes_of rfl rfl rfl rfl) (fa_cons (fe_var 1) fa_nil)) (fe_one (fe_chain of_le of_le (fe_ix (fe_var 0) fe_int (by intro _ _; rfl)) (fe_var 1) (fe_ix (fe_var 0) fe_int (by intro _ _; rfl))))))) fss_nil)
      (fss_one (fs_ret (fe_or (fe_cmp of_is (fe_var 1) fe_non (by rfl)) (fe_one (fe_and (fe_callD (ok_law_integer T) (fun z => nomatch z) (hr.mono (by decide)) rfl (takes_of rfl rfl rfl rfl) (fa_cons (fe_var 1) fa_nil)) (fe_one (fe_cmp of_ge (fe_var 1) fe_int (by rfl)))))))))
abbrev N_law_objects_fault : List Str := ["_law_item", "_law_forms", "_law_before", "_law_k", "_law_own", "_law_title", "_law_values", "_law_j"]
theorem sc_law_objects_fault : FnScope ["_law_item", "_law_forms", "_law_before", "_law_k", "_law_own", "_law_title", "_law_values", "_law_j"] ["_law_item"] (defScope s_law_objects_fault) := ⟨rfl, rfl, rfl, by decide +kernel, rfl, by decide +kernel, by decide +kernel⟩
theorem ok_law_objects_fault (T : Tx K mg base) : GAt false P w K mg base 3 "_law_objects_fault" s_law_objects_fault ["_law_item"] g_law_objects_fault := g_at T.d_law_objects_fault sc_law_objects_fault fun f cd A outer s H E hcd hG hr => by
    have nd := sc_law_objects_fault.nd
    exact (fss_cons (fs_par (i := 1) (j := 2) rfl nd rfl rfl (by decide) rfl rfl (fa_cons (fe_callT (cf_dict rfl) rfl T.b_dict bo_dict (fa_cons (fe_ix (fe_var 0) fe_int (by intro _ _; rfl)) fa_nil)) (fa_cons (fe_un of_neg fe_int) fa_nil)) (by rfl))
      (fss_cons (fs_for (passes_of rfl) rfl (fi_range1 rfl T.b_range (fa_cons (fe_callB cf_len rfl T.b_len bo_len (fa_cons (fe_ix (fe_var 0) fe_int (by intro _ _; rfl)) fa_nil)) fa_nil)) (fg_name (i := 3) nd rfl (by first | exact Or.inl rfl | exact Or.inr rfl)) (fss_cons (fs_asg (fe_ix (fe_ix (fe_var 0) fe_int (by intro _ _; rfl)) (fe_var 3) (by intro _ _; rfl)) (fg_tup rfl (fgs_cons (fg_name (i := 4) nd rfl (by first | exact Or.inl rfl | exact Or.inr rfl)) (fgs_cons (fg_name (i := 5) nd rfl (by first | exact Or.inl rfl | exact Or.inr rfl)) (fgs_cons (fg_name (i := 6) nd rfl (by first | exact Or.inl rfl | exact Or.inr rfl)) fgs_nil)))))
      (fss_cons (fs_if (FW.ft (fw_or (ft_cmp of_le (fe_var 4) (fe_var 2) (by rfl)) (fw_or1 (ft_cmp of_ge (fe_var 4) (fe_ix (fe_var 0) fe_int (by intro _ _; rfl)) (by rfl))))) (fss_one (fs_ret (fe_tup (fa_cons fe_str (fa_cons (fe_var 3) fa_nil))))) fss_nil)
      (fss_cons (fs_if (ft_cmp (of_dnotin (hu1 hr)) (fe_var 5) (fe_var 1) (by rfl)) (fss_one (fs_ret (fe_tup (fa_cons fe_str (fa_cons (fe_var 3) fa_nil))))) fss_nil)
      (fss_cons (fs_if (ft_cmp (of_ne (hu64 hr)) (fe_callB cf_len rfl T.b_len bo_len (fa_cons (fe_var 6) fa_nil)) (fe_callB cf_len rfl T.b_len bo_len (fa_cons (fe_dget (hu1 hr) (fe_var 1) (fe_var 5) (by intro _ _; rfl)) fa_nil)) (by rfl)) (fss_one (fs_ret (fe_tup (fa_cons fe_str (fa_cons (fe_var 3) fa_nil))))) fss_nil)
      (fss_cons (fs_for (passes_of rfl) rfl (fi_range1 rfl T.b_range (fa_cons (fe_callB cf_len rfl T.b_len bo_len (fa_cons (fe_var 6) fa_nil)) fa_nil)) (fg_name (i := 7) nd rfl (by first | exact Or.inl rfl | exact Or.inr rfl)) (fss_one (fs_if (ft_not (ft_val (fe_callD (ok_law_value_ok T) (fun z => nomatch z) (hr.mono (by decide)) rfl (takes_of rfl rfl rfl rfl) (fa_cons (fe_ix (fe_ix (fe_dget (hu1 hr) (fe_var 1) (fe_var 5) (by intro _ _; rfl)) (fe_var 7) (by intro _ _; rfl)) fe_int (by intro _ _; rfl)) (fa_cons (fe_ix (fe_var 6) (fe_var 7) (by intro _ _; rfl)) fa_nil))))) (fss_one (fs_ret (fe_tup (fa_cons fe_str (fa_cons (fe_tup (fa_cons (fe_var 3) (fa_cons (fe_var 7) fa_nil))) fa_nil))))) fss_nil)))
      (fss_one (fs_set (i := 2) nd rfl (by first | exact Or.inl rfl | exact Or.inr rfl) (fe_var 4)))))))))
      (fss_one (fs_ret fe_non))))
abbrev N_law_links_fault : List Str := ["_law_item", "_law_forms", "_law_heads", "_law_one", "_law_k", "_law_title", "_law_values", "_law_j", "_law_sort"]
theorem sc_law_links_fault : FnScope ["_law_item", "_law_forms", "_law_heads", "_law_one", "_law_k", "_law_title", "_law_values", "_law_j", "_law_sort"] ["_law_item"] (defScope s_law_links_fault) := ⟨rfl, rfl, rfl, by decide +kernel, rfl, by decide +kernel, by decide +kernel⟩
theorem ok_law_links_fault (T : Tx K mg base) : GAt false P w K mg base 1 "_law_links_fault" s_law_links_fault ["_law_item"] g_law_links_fault := g_at T.d_law_links_fault sc_law_links_fault fun f cd A outer s H E hcd hG hr => by
    have nd := sc_law_links_fault.nd
    exact (fss_cons (fs_par (i := 1) (j := 2) rfl nd rfl rfl (by decide) rfl rfl (fa_cons (fe_callT (cf_dict rfl) rfl T.b_dict bo_dict (fa_cons (fe_ix (fe_var 0) fe_int (by intro _ _; rfl)) fa_nil)) (fa_cons (fe_callT (cf_dict rfl) rfl T.b_dict bo_dict (fa_cons (fe_lc (own := [("_law_one", 3)]) kp_L rfl nd (fi_seq (fe_ix (fe_var 0) fe_int (by intro _ _; rfl))) (blkOk_by (N := N_law_links_fault) (sc := defScope s_law_links_fault) (by decide +kernel)) (by decide) (fun s2 H2 C2 cl2 fp2 => (fg_name (i := 3) nd rfl (by first | exact Or.inl rfl | exact Or.inr rfl))) (fun s2 H2 C2 cl2 fp2 => pts_no rfl) (fun s2 H2 C2 cl2 fp2 => (fe_slice (fe_var 3) fo_none (fo_some fe_int)))) fa_nil)) fa_nil)) (by rfl))
      (fss_cons (fs_for (passes_of rfl) rfl (fi_range1 rfl T.b_range (fa_cons (fe_callB cf_len rfl T.b_len bo_len (fa_cons (fe_ix (fe_var 0) fe_int (by intro _ _; rfl)) fa_nil)) fa_nil)) (fg_name (i := 4) nd rfl (by first | exact Or.inl rfl | exact Or.inr rfl)) (fss_cons (fs_asg (fe_slice (fe_ix (fe_ix (fe_var 0) fe_int (by intro _ _; rfl)) (fe_var 4) (by intro _ _; rfl)) (fo_some fe_int) fo_none) (fg_tup rfl (fgs_cons (fg_name (i := 5) nd rfl (by first | exact Or.inl rfl | exact Or.inr rfl)) (fgs_cons (fg_name (i := 6) nd rfl (by first | exact Or.inl rfl | exact Or.inr rfl)) fgs_nil))))
      (fss_one (fs_for (passes_of rfl) rfl (fi_range1 rfl T.b_range (fa_cons (fe_callB cf_len rfl T.b_len bo_len (fa_cons (fe_var 6) fa_nil)) fa_nil)) (fg_name (i := 7) nd rfl (by first | exact Or.inl rfl | exact Or.inr rfl)) (fss_cons (fs_set (i := 8) nd rfl (by first | exact Or.inl rfl | exact Or.inr rfl) (fe_ix (fe_ix (fe_dget (hu1 hr) (fe_var 1) (fe_var 5) (by intro _ _; rfl)) (fe_var 7) (by intro _ _; rfl)) fe_int (by intro _ _; rfl)))
      (fss_one (fs_if (FW.ft (fw_and (ft_val (fe_isi (T := "str") rfl (by decide) rfl T.b_isinstance rfl T.b_str bo_str bo_isinstance (fe_var 8))) (fw_and (ft_cmp of_isnt (fe_ix (fe_var 6) (fe_var 7) (by intro _ _; rfl)) fe_non (by rfl)) (fw_and1 (ft_cmp (of_ne (hu64 hr)) (fe_get1 (hu1 hr) (fe_var 2) (fe_ix (fe_var 6) (fe_var 7) (by intro _ _; rfl)) ⟨rfl, rfl, rfl, rfl⟩) (fe_var 8) (by rfl)))))) (fss_one (fs_ret (fe_tup (fa_cons fe_str (fa_cons (fe_tup (fa_cons (fe_var 4) (fa_cons (fe_var 7) fa_nil))) fa_nil))))) fss_nil)))))))
      (fss_one (fs_ret fe_non))))
abbrev N_law_heard : List Str := ["_law_ask", "e_in", "_law_families", "_law_strays", "_law_others"]
theorem sc_law_heard : FnScope ["_law_ask", "e_in", "_law_families", "_law_strays", "_law_others"] ["_law_ask"] (defScope s_law_heard) := ⟨rfl, rfl, rfl, by decide +kernel, rfl, by decide +kernel, by decide +kernel⟩
theorem sus_law_heard (T : Tx K mg base) {fs : List Str} (y : String) (L : XLook K mg y ["at", "field", "number", "path", "row", "word"]) (g : Addr) (cdg : Value) (A : Around) (outer : List PySem.Env) (s : Shared) (H : Hp) (a : Addr) (oe : Obj) (dd C : Addr) (pn : List (Addr × Obj)) (hu : A.units + 100 < cLine) (hz : Zc (.ref C) (some dd) oe) (hf : ∃ vs, oe.data = .fields vs) (hx : mg (Str.ofString y) = some (.ref C)) :
    FSs ((cxOf C8.CX0 P w K mg base N_law_heard "_law_heard" (defScope s_law_heard) g cdg A outer s H C8.E0).nox.suite a ((a, oe) :: pn)) W0 (hbody s_law_heard) (bs_law_heard a dd y) := by
    have nd := sc_law_heard.nd
    have hs64 : A.units + 3 + 64 < cLine := by omega
    have hs1 : A.units + 3 + 1 < cLine := by omega
    exact (fss_cons (fs_set (i := 2) nd rfl (by first | exact Or.inl rfl | exact Or.inr rfl) (fe_lst (fa_cons (fe_isE (i := 1) (tab := tabI_PaperError) L hx T.k_PaperError hz hf rfl T.b_isinstance rfl rfl (by first | exact Or.inl rfl | exact Or.inr (Or.inl rfl) | exact Or.inr (Or.inr rfl))) (fa_cons (fe_isE (i := 1) (tab := tabI_StoreError) L hx T.k_StoreError hz hf rfl T.b_isinstance rfl rfl (by first | exact Or.inl rfl | exact Or.inr (Or.inl rfl) | exact Or.inr (Or.inr rfl))) (fa_cons (fe_isE (i := 1) (tab := tabI_TextError) L hx T.k_TextError hz hf rfl T.b_isinstance rfl rfl (by first | exact Or.inl rfl | exact Or.inr (Or.inl rfl) | exact Or.inr (Or.inr rfl))) fa_nil)))))
      (fss_cons (fs_set (i := 3) nd rfl (by first | exact Or.inl rfl | exact Or.inr rfl) (fe_new (fa_cons (fe_isE (i := 1) (tab := tabI_InvalidPaper) L hx T.k_InvalidPaper hz hf rfl T.b_isinstance rfl rfl (by first | exact Or.inl rfl | exact Or.inr (Or.inl rfl) | exact Or.inr (Or.inr rfl))) (fa_cons (fe_isE (i := 1) (tab := tabI_UnknownObject) L hx T.k_UnknownObject hz hf rfl T.b_isinstance rfl rfl (by first | exact Or.inl rfl | exact Or.inr (Or.inl rfl) | exact Or.inr (Or.inr rfl))) (fa_cons (fe_isE (i := 1) (tab := tabI_UnfitExpression) L hx T.k_UnfitExpression hz hf rfl T.b_isinstance rfl rfl (by first | exact Or.inl rfl | exact Or.inr (Or.inl rfl) | exact Or.inr (Or.inr rfl))) fa_nil)))))
      (fss_cons (fs_expr (fe_append ⟨rfl, rfl, rfl, rfl, rfl⟩ (fe_var 3) (fa_cons (fe_isE (i := 1) (tab := tabI_InvalidText) L hx T.k_InvalidText hz hf rfl T.b_isinstance rfl rfl (by first | exact Or.inl rfl | exact Or.inr (Or.inl rfl) | exact Or.inr (Or.inr rfl))) fa_nil)))
      (fss_frz 3 (fss_cons (fs_set (i := 4) nd rfl (by first | exact Or.inl rfl | exact Or.inr rfl) (fe_isET (i := 1) (tab := tabI_InvalidStep_GoneCell_NothingToUndo_InvalidPace_InvalidCommand) [("InvalidStep", _), ("GoneCell", _), ("NothingToUndo", _), ("InvalidPace", _), ("InvalidCommand", _)] L hx T.k_InvalidStep_GoneCell_NothingToUndo_InvalidPace_InvalidCommand hz hf rfl T.b_isinstance (by intro z hz; simp at hz; rcases hz with rfl | rfl | rfl | rfl | rfl <;> exact ⟨rfl, by decide⟩) (by decide) rfl (by first | exact Or.inl rfl | exact Or.inr (Or.inl rfl) | exact Or.inr (Or.inr rfl))))
      (fss_cons (fs_if (FW.ft (fw_and (ft_cmp (of_eq hs64) (fe_var 2) (fe_lst (fa_cons fe_bl (fa_cons fe_bl (fa_cons fe_bl fa_nil)))) (by rfl)) (fw_and (ft_cmp (of_eq hs64) (fe_var 3) (fe_lst (fa_cons fe_bl (fa_cons fe_bl (fa_cons fe_bl (fa_cons fe_bl fa_nil))))) (by rfl)) (fw_and1 (ft_not (ft_val (fe_var 4))))))) (fss_one (fs_ret (fe_tup (fa_cons fe_str (fa_cons (fe_fldE (i := 1) L hx (by decide) hz hf rfl (by first | exact Or.inl rfl | exact Or.inr (Or.inl rfl) | exact Or.inr (Or.inr rfl))) (fa_cons (fe_fldE (i := 1) L hx (by decide) hz hf rfl (by first | exact Or.inl rfl | exact Or.inr (Or.inl rfl) | exact Or.inr (Or.inr rfl))) fa_nil)))))) fss_nil)
      (fss_cons (fs_if (FW.ft (fw_and (ft_cmp (of_eq hs64) (fe_var 2) (fe_lst (fa_cons fe_bl (fa_cons fe_bl (fa_cons fe_bl fa_nil)))) (by rfl)) (fw_and (ft_cmp (of_eq hs64) (fe_var 3) (fe_lst (fa_cons fe_bl (fa_cons fe_bl (fa_cons fe_bl (fa_cons fe_bl fa_nil))))) (by rfl)) (fw_and1 (ft_not (ft_val (fe_var 4))))))) (fss_one (fs_ret (fe_tup (fa_cons fe_str (fa_cons (fe_fldE (i := 1) L hx (by decide) hz hf rfl (by first | exact Or.inl rfl | exact Or.inr (Or.inl rfl) | exact Or.inr (Or.inr rfl))) fa_nil))))) fss_nil)
      (fss_cons (fs_if (FW.ft (fw_and (ft_cmp (of_eq hs64) (fe_var 2) (fe_lst (fa_cons fe_bl (fa_cons fe_bl (fa_cons fe_bl fa_nil)))) (by rfl)) (fw_and (ft_cmp (of_eq hs64) (fe_var 3) (fe_lst (fa_cons fe_bl (fa_cons fe_bl (fa_cons fe_bl (fa_cons fe_bl fa_nil))))) (by rfl)) (fw_and1 (ft_not (ft_val (fe_var 4))))))) (fss_one (fs_ret (fe_tup (fa_cons fe_str (fa_cons (fe_fldE (i := 1) L hx (by decide) hz hf rfl (by first | exact Or.inl rfl | exact Or.inr (Or.inl rfl) | exact Or.inr (Or.inr rfl))) fa_nil))))) fss_nil)
      (fss_cons (fs_if (FW.ft (fw_and (ft_cmp (of_eq hs64) (fe_var 2) (fe_lst (fa_cons fe_bl (fa_cons fe_bl (fa_cons fe_bl fa_nil)))) (by rfl)) (fw_and (ft_cmp (of_eq hs64) (fe_var 3) (fe_lst (fa_cons fe_bl (fa_cons fe_bl (fa_cons fe_bl (fa_cons fe_bl fa_nil))))) (by rfl)) (fw_and1 (ft_not (ft_val (fe_var 4))))))) (fss_one (fs_ret (fe_tup (fa_cons fe_str (fa_cons (fe_fldE (i := 1) L hx (by decide) hz hf rfl (by first | exact Or.inl rfl | exact Or.inr (Or.inl rfl) | exact Or.inr (Or.inr rfl))) (fa_cons (fe_fldE (i := 1) L hx (by decide) hz hf rfl (by first | exact Or.inl rfl | exact Or.inr (Or.inl rfl) | exact Or.inr (Or.inr rfl))) fa_nil)))))) fss_nil)
      (fss_one (fs_ret (fe_tup (fa_cons fe_str fa_nil)))))))))))))
theorem su_law_heard (T : Tx K mg base) : SuiteOk P w K mg base "_law_heard" (defScope s_law_heard) N_law_heard (hbody s_law_heard) sg_law_heard := fun g cdg A outer s H a oe dd C y pn hu hz hf hx => by
  unfold sg_law_heard
  split
  · rename_i e; subst e; exact sus_law_heard T (fs := []) _ T.L_InvalidPaper g cdg A outer s H a oe dd C pn hu hz hf hx
  exact fss_no
abbrev N_law_right : List Str := ["_law_item", "_law_found", "_law_due_in"]
theorem sc_law_right : FnScope ["_law_item", "_law_found", "_law_due_in"] ["_law_item"] (defScope s_law_right) := ⟨rfl, rfl, rfl, by decide +kernel, rfl, by decide +kernel, by decide +kernel⟩
theorem ok_law_right (T : Tx K mg base) : GAt true P w K mg base 10 "_law_right" s_law_right ["_law_item"] g_law_right := g_at T.d_law_right sc_law_right fun f cd A outer s H E hcd hG hr => by
    have nd := sc_law_right.nd
    obtain ⟨lc, lP, lc1, lTB, lmT, lun⟩ := T.l_law_right
    have hcode := hcd.eq lc1
    obtain ⟨CL_LateError, CLm_LateError, CLs_LateError⟩ := T.n_LateError
    exact (fss_cons (fs_set (i := 1) nd rfl (by first | exact Or.inl rfl | exact Or.inr rfl) (fe_ite (ft_val (fe_callD (ok_law_has_shape T) (fun z => nomatch z) (hr.mono (by decide)) rfl (takes_of rfl rfl rfl rfl) (fa_cons (fe_var 0) fa_nil))) fe_non (fe_tup (fa_cons fe_str (fa_cons (fe_un of_neg fe_int) fa_nil)))))
      (fss_cons (fs_if (ft_cmp of_is (fe_var 1) fe_non (by rfl)) (fss_one (fs_set (i := 1) nd rfl (by first | exact Or.inl rfl | exact Or.inr rfl) (fe_callD (ok_law_objects_fault T) (fun z => nomatch z) (hr.mono (by decide)) rfl (takes_of rfl rfl rfl rfl) (fa_cons (fe_var 0) fa_nil)))) fss_nil)
      (fss_cons (fs_if (ft_cmp of_is (fe_var 1) fe_non (by rfl)) (fss_one (fs_set (i := 1) nd rfl (by first | exact Or.inl rfl | exact Or.inr rfl) (fe_callD (ok_law_links_fault T) (fun z => nomatch z) (hr.mono (by decide)) rfl (takes_of rfl rfl rfl rfl) (fa_cons (fe_var 0) fa_nil)))) fss_nil)
      (fss_cons (fs_set (i := 2) nd rfl (by first | exact Or.inl rfl | exact Or.inr rfl) (fe_ite (ft_cmp of_is (fe_var 1) fe_non (by rfl)) (fe_tup (fa_cons fe_str (fa_cons (fe_tup (fa_cons (fe_callB cf_len rfl T.b_len bo_len (fa_cons (fe_ix (fe_var 0) fe_int (by intro _ _; rfl)) fa_nil)) (fa_cons (fe_callB cf_len rfl T.b_len bo_len (fa_cons (fe_ix (fe_var 0) fe_int (by intro _ _; rfl)) fa_nil)) fa_nil))) fa_nil))) (fe_bin (of_add mk_L) (fe_tup (fa_cons fe_str fa_nil)) (fe_var 1))))
      (fss_cons (fs_if (ft_cmp (of_ne (hu64 hr)) (fe_callB (cf_repr (hG rfl) (hu66 hr)) rfl T.b_repr bo_repr (fa_cons (fe_heard (k := 7) (cl := "LateError") (en := "e_in") (tab := tabs_LateError) (qf := qf_law_heard) (sgf := sg_law_heard) (Ng := N_law_heard) (st := s_law_heard) T.d_law_heard sc_law_heard rfl rfl rfl rfl rfl CLm_LateError (by decide) CLs_LateError (su_law_heard T) (fun _ => rfl) hq_law_heard rfl lTB hcode lmT lun (hr.mono (by decide)) (LamX.lamS_by (show LamX.lamSB (defScope s_law_right) _ = true by decide +kernel)) rfl (fun _ _ _ _ _ => rfl) (fun A outer s H E f2 c2 hr => (fe_callD (ok_lets_plain T) (fun z => nomatch z) (hr.mono (by decide)) rfl (takes_of rfl rfl rfl rfl) (fa_cons (fe_var 0) fa_nil)))) fa_nil)) (fe_callB (cf_repr (hG rfl) (hu66 hr)) rfl T.b_repr bo_repr (fa_cons (fe_var 2) fa_nil)) (by rfl)) (fss_one (fs_ret fe_bl)) fss_nil)
      (fss_one (fs_ret (fe_cmp (of_eq (hu64 hr)) (fe_callB (cf_repr (hG rfl) (hu66 hr)) rfl T.b_repr bo_repr (fa_cons (fe_callD (ok_is_plain T) (fun z => nomatch z) (hr.mono (by decide)) rfl (takes_of rfl rfl rfl rfl) (fa_cons (fe_var 0) fa_nil)) fa_nil)) (fe_callB (cf_repr (hG rfl) (hu66 hr)) rfl T.b_repr bo_repr (fa_cons (fe_cmp of_is (fe_var 1) fe_non (by rfl)) fa_nil)) (by rfl)))))))))
abbrev N_law : List Str := ["_law_script", "_law_feed_here", "_law_items", "_law_scheme", "_law_turn", "_law_book", "_law_k", "_law_once", "_law_kept", "_law_item"]
theorem sc_law : FnScope ["_law_script", "_law_feed_here", "_law_items", "_law_scheme", "_law_turn", "_law_book", "_law_k", "_law_once", "_law_kept", "_law_item"] ["_law_script"] (defScope s_law) := ⟨rfl, rfl, rfl, by decide +kernel, rfl, by decide +kernel, by decide +kernel⟩
theorem ok_law (T : Tx K mg base) : GAt true P w K mg base 34 "law" s_law ["_law_script"] g_law := g_at T.d_law sc_law fun f cd A outer s H E hcd hG hr => by
    have nd := sc_law.nd
    exact (fss_cons (fs_set (i := 1) nd rfl (by first | exact Or.inl rfl | exact Or.inr rfl) (fe_callD (ok_law_feed T) (fun z => nomatch z) (hr.mono (by decide)) rfl (takes_of rfl rfl rfl rfl) (fa_cons (fe_var 0) fa_nil)))
      (fss_cons (fs_set (i := 2) nd rfl (by first | exact Or.inl rfl | exact Or.inr rfl) (fe_bin (of_add mk_N) (fe_stp (fe_callD0 (ok_law_by_hand T) (fun z => nomatch z) (hr.mono (by decide)) rfl (takes_of rfl rfl rfl rfl)) (fo_some (fe_callD (ok_law_draw T) (fun z => nomatch z) (hr.mono (by decide)) rfl (takes_of rfl rfl rfl rfl) (fa_cons (fe_var 1) (fa_cons fe_int fa_nil)))) fo_none (fo_some fe_int)) (fe_lst (fa_cons fe_int (fa_cons fe_str (fa_cons fe_bl (fa_cons (fe_lc (own := [("_law_scheme", 3)]) kp_L rfl nd (fi_seq (fe_callD0 (ok_law_base T) (fun z => nomatch z) (hr.mono (by decide)) rfl (takes_of rfl rfl rfl rfl))) (blkOk_by (N := N_law) (sc := defScope s_law) (by decide +kernel)) (by decide) (fun s2 H2 C2 cl2 fp2 => (fg_name (i := 3) nd rfl (by first | exact Or.inl rfl | exact Or.inr rfl))) (fun s2 H2 C2 cl2 fp2 => pts_no rfl) (fun s2 H2 C2 cl2 fp2 => (fe_var 3))) fa_nil)))))))
      (fss_cons (fs_for (passes_of rfl) rfl (fi_range1 rfl T.b_range (fa_cons fe_int fa_nil)) (fg_name (i := 4) nd rfl (by first | exact Or.inl rfl | exact Or.inr rfl)) (fss_cons (fs_set (i := 5) nd rfl (by first | exact Or.inl rfl | exact Or.inr rfl) (fe_callD (ok_law_store T) (fun z => nomatch z) (hr.mono (by decide)) rfl (takes_of rfl rfl rfl rfl) (fa_cons (fe_var 1) (fa_cons (fe_callD (ok_law_schema T) (fun z => nomatch z) (hr.mono (by decide)) rfl (takes_of rfl rfl rfl rfl) (fa_cons (fe_var 1) fa_nil)) fa_nil))))
      (fss_cons (fs_expr (fe_append ⟨rfl, rfl, rfl, rfl, rfl⟩ (fe_var 2) (fa_cons (fe_var 5) fa_nil)))
      (fss_one (fs_for (passes_of rfl) rfl (fi_range1 rfl T.b_range (fa_cons fe_int fa_nil)) (fg_name (i := 6) nd rfl (by first | exact Or.inl rfl | exact Or.inr rfl)) (fss_cons (fs_set (i := 7) nd rfl (by first | exact Or.inl rfl | exact Or.inr rfl) (fe_callD (ok_law_bent T fuel_law_bent) (fun z => nomatch z) (hr.mono (by decide)) rfl (takes_of rfl rfl rfl rfl) (fa_cons (fe_var 1) (fa_cons (fe_var 5) fa_nil))))
      (fss_cons (fs_expr (fe_extend ⟨rfl, rfl, rfl, rfl, rfl⟩ (fe_var 2) (fa_cons (fe_lst (fa_cons (fe_var 7) (fa_cons (fe_callD (ok_law_bent T fuel_law_bent) (fun z => nomatch z) (hr.mono (by decide)) rfl (takes_of rfl rfl rfl rfl) (fa_cons (fe_var 1) (fa_cons (fe_var 7) fa_nil))) fa_nil))) fa_nil)))
      (fss_one (fs_expr (fe_append ⟨rfl, rfl, rfl, rfl, rfl⟩ (fe_var 2) (fa_cons (fe_tup (fa_cons (fe_ix (fe_var 5) fe_int (by intro _ _; rfl)) (fa_cons (fe_ix (fe_var 5) fe_int (by intro _ _; rfl)) (fa_cons (fe_callD (ok_law_bent T fuel_law_bent) (fun z => nomatch z) (hr.mono (by decide)) rfl (takes_of rfl rfl rfl rfl) (fa_cons (fe_var 1) (fa_cons (fe_ix (fe_var 5) fe_int (by intro _ _; rfl)) fa_nil))) fa_nil)))) fa_nil)))))))))))
      (fss_frz 2 (fss_cons (fs_set (i := 8) nd rfl (by first | exact Or.inl rfl | exact Or.inr rfl) (fe_callB (cf_repr (hG rfl) (hu66 hr)) rfl T.b_repr bo_repr (fa_cons (fe_var 2) fa_nil)))
      (fss_cons (fs_if (FW.ft (fw_or (ft_cmp (of_ne (hu64 hr)) (fe_lc (own := [("_law_item", 9)]) kp_L rfl nd (fi_seq (fe_var 2)) (blkOk_by (N := N_law) (sc := defScope s_law) (by decide +kernel)) (by decide) (fun s2 H2 C2 cl2 fp2 => (fg_name (i := 9) nd rfl (by first | exact Or.inl rfl | exact Or.inr rfl))) (fun s2 H2 C2 cl2 fp2 => pts_if (ft_not (ft_val (fe_callD (ok_law_right T) hG (hr.mono (by decide)) rfl tk0 (fa_cons (fe_var 9) fa_nil))))) (fun s2 H2 C2 cl2 fp2 => (fe_var 9))) (fe_lst fa_nil) (by rfl)) (fw_or1 (ft_cmp (of_ne (hu64 hr)) (fe_callB (cf_repr (hG rfl) (hu66 hr)) rfl T.b_repr bo_repr (fa_cons (fe_var 2) fa_nil)) (fe_var 8) (by rfl))))) (fss_one (fs_ret fe_bl)) fss_nil)
      (fss_one (fs_ret (fe_cmp (of_eq (hu64 hr)) (fe_callB (cf_repr (hG rfl) (hu66 hr)) rfl T.b_repr bo_repr (fa_cons (fe_lst (fa_cons (fe_callDK ["thing"] [0] (ok_lets_plain T) (fun z => nomatch z) (hr.mono (by decide)) rfl (takes_of rfl rfl rfl rfl) (fun _ _ _ _ _ _ ws hl => match ws, hl with | [_], _ => rfl) (fk_cons (fe_callD0 (ok_law_base T) (fun z => nomatch z) (hr.mono (by decide)) rfl (takes_of rfl rfl rfl rfl)) fk_nil)) (fa_cons (fe_callDK ["thing"] [0] (ok_is_plain T) (fun z => nomatch z) (hr.mono (by decide)) rfl (takes_of rfl rfl rfl rfl) (fun _ _ _ _ _ _ ws hl => match ws, hl with | [_], _ => rfl) (fk_cons (fe_callD0 (ok_law_base T) (fun z => nomatch z) (hr.mono (by decide)) rfl (takes_of rfl rfl rfl rfl)) fk_nil)) fa_nil))) fa_nil)) (fe_callB (cf_repr (hG rfl) (hu66 hr)) rfl T.b_repr bo_repr (fa_cons (fe_lst (fa_cons (fe_tup (fa_cons fe_int (fa_cons fe_int fa_nil))) (fa_cons fe_bl fa_nil))) fa_nil)) (by rfl))))))))))
end
end K03

end
/-! ## K03b -/
section
namespace Fx
variable [Fx.Tabl]
open PySem PySem.Spec PyProof.Rows L2
/-! ### comprehensions and loops that leave the store -/
theorem compL_pure {mk : List D → M D} {t : D → Env → Option Env} {c : Env → M Bool} {el : Env → M D} {env0 : Env} {S : Store} (p : D → Bool) (f : D → D) : ∀ (ds acc : List D),
    (∀ d ∈ ds, ∃ env1, t d env0 = some env1 ∧ c env1 S = .ok (p d) S ∧ (p d = true → el env1 S = .ok (f d) S)) → acc.length + ds.length ≤ sizeLine →
    compL mk t c el env0 ds acc S = mk (acc ++ (ds.filter p).map f) S
  | [], acc, _, _ => by simp [compL]
  | d :: ds, acc, h, hl => by
    obtain ⟨env1, h1, h2, h3⟩ := h d (by simp)
    have hr := fun d' hd' => h d' (List.mem_cons_of_mem _ hd')
    unfold compL
    simp only [h1, bdN, h2]
    cases q : p d with
    | false =>
      rw [if_neg (by simp), compL_pure p f ds acc hr (by simp at hl; omega)]
      simp [List.filter_cons, q]
    | true =>
      simp only [if_pos, bdN, h3 q]
      have hl2 : acc.length < sizeLine := by simp at hl; omega
      simp only [if_pos hl2]
      rw [compL_pure p f ds (acc ++ [f d]) hr (by simp at hl ⊢; omega)]
      simp [List.filter_cons, q]
theorem loop_all {t : D → Env → Option Env} {b : Env → MS} {S : Store} (Iv : Env → Prop) (p : D → Bool) (r : D) : ∀ (ds : List D) (env : Env), Iv env →
    (∀ d ∈ ds, ∀ env, Iv env → ∃ env1, t d env = some env1 ∧ (p d = true → ∃ env2, Iv env2 ∧ b env1 S = .ok (.nx env2) S) ∧ (p d = false → b env1 S = .ok (.rt r) S)) →
    (ds.all p = true → ∃ env', Iv env' ∧ loop t b ds env S = .ok (.nx env') S) ∧ (ds.all p = false → loop t b ds env S = .ok (.rt r) S)
  | [], env, hi, _ => ⟨fun _ => ⟨env, hi, rfl⟩, fun h => by simp at h⟩
  | d :: ds, env, hi, h => by
    obtain ⟨env1, h1, h2, h3⟩ := h d (by simp) env hi
    have hr := fun d' hd' => h d' (List.mem_cons_of_mem _ hd')
    cases q : p d with
    | false =>
      refine ⟨fun z => by simp [q] at z, fun _ => ?_⟩
      unfold loop
      simp only [h1, h3 q]
    | true =>
      obtain ⟨env2, i2, e2⟩ := h2 q
      obtain ⟨g1, g2⟩ := loop_all Iv p r ds env2 i2 hr
      refine ⟨fun z => ?_, fun z => ?_⟩
      · obtain ⟨env', i', e'⟩ := g1 (by simpa [q] using z)
        refine ⟨env', i', ?_⟩
        unfold loop
        simp only [h1, e2, e']
      · unfold loop
        simp only [h1, e2, g2 (by simpa [q] using z)]
theorem blsOf_map {α : Type} (p : α → Bool) : ∀ xs : List α, blsOf (xs.map fun x => D.bl (p x)) = some (xs.map p)
  | [] => rfl
  | x :: xs => by simp [blsOf, blsOf_map p xs]
theorem allD_map {α : Type} (p : α → Bool) (xs : List α) (S : Store) : allD [.lst (xs.map fun x => D.bl (p x))] S = .ok (.bl (xs.all p)) S := by
  simp [allD, bd, seqL, seqM, pur, opt, blsOf_map, List.all_map, Function.comp]
theorem mkL_ok {ds : List D} {S : Store} (h : ds.length ≤ sizeLine) : mkL ds S = .ok (.lst ds) S := by simp [mkL, h, pur]
theorem mkT_ok {ds : List D} {S : Store} (h : ds.length ≤ sizeLine) : mkT ds S = .ok (.tup ds) S := by simp [mkT, h, pur]
theorem len_pys : ∀ ds : List D, ds.length ≤ PyData.weightAll (pys ds)
  | [] => Nat.zero_le _
  | d :: ds => by have := len_pys ds; simp only [List.length_cons, pys, PyData.weightAll]; omega
theorem len_str {x : Str} : x.length = wgt (.str x) := rfl
theorem wgt_mem : ∀ {ds : List D} {d : D}, d ∈ ds → wgt d + 1 ≤ PyData.weightAll (pys ds)
  | x :: ds, d, h => by
    rcases List.mem_cons.mp h with e | h
    · subst e; simp only [pys, PyData.weightAll, wgt]; omega
    · have := wgt_mem h; simp only [pys, PyData.weightAll]; omega
theorem ite_ap {α β : Type} {c : Prop} [Decidable c] (f g : α → β) (x : α) : (if c then f else g) x = if c then f x else g x := by split <;> rfl
theorem filt_all {α : Type} (p : α → Bool) : ∀ l : List α, (l.filter fun c => !p c).isEmpty = l.all p
  | [] => rfl
  | x :: l => by cases h : p x <;> simp [h, filt_all p l]
theorem isEmpty_map' {α β : Type} (f : α → β) (l : List α) : (l.map f).isEmpty = l.isEmpty := by cases l <;> rfl
theorem cmp_ok {vs : List Nat} {it : Env → M (List D)} {t : D → Env → Option Env} {c : Env → M Bool} {el : Env → M D} {env : Env} {S : Store} (ds : List D) (p : D → Bool) (f : D → D) (hit : it env S = .ok ds S)
    (h : ∀ d ∈ ds, ∃ env1, t d (wipeE env vs) = some env1 ∧ c env1 S = .ok (p d) S ∧ (p d = true → el env1 S = .ok (f d) S)) (hl : ds.length ≤ sizeLine) :
    cmp vs mkL it t c el env S = .ok (.lst ((ds.filter p).map f)) S := by
  simp only [cmp, bd, hit]
  rw [compL_pure p f ds [] h (by simpa using hl), List.nil_append, mkL_ok]
  rw [List.length_map]
  exact Nat.le_trans (List.length_filter_le _ _) hl
theorem bin_ok {g : D → D → M D} {f1 f2 : Env → M D} {env : Env} {S : Store} {a b : D} (h1 : f1 env S = .ok a S) (h2 : f2 env S = .ok b S) : Fx.bin g f1 f2 env S = g a b S := by
  simp only [Fx.bin, bd, h1, h2]
theorem ret_ok {f : Env → M D} {env : Env} {S : Store} {a : D} (h1 : f env S = .ok a S) : Fx.ret f env S = .ok (.rt a) S := by
  simp only [Fx.ret, lft, h1]
theorem nilL (env : Env) (S : Store) : dsp mkL (fun _ => pur []) env S = .ok (.lst []) S := rfl
theorem nilT (env : Env) (S : Store) : dsp mkT (fun _ => pur []) env S = .ok (.tup []) S := rfl
theorem body_rt {n m : Nat} {b : Env → MS} {ds : List D} {S S' : Store} {d : D} (hm : ds.length = m) (h : b (ent n ds) S = .ok (.rt d) S') : bodyD n m b ds S = .ok d S' := by
  simp only [bodyD, if_pos hm, h]
theorem cal1_ok {f : Env → M D} {g : List D → M D} {env : Env} {S : Store} {a : D} (h : f env S = .ok a S) : cal (cns f (fun _ => pur [])) g env S = g [a] S := by
  simp only [cal, cns, bd, h, pur]
theorem andV_t {f g : Env → M D} {env : Env} {S : Store} (h : f env S = .ok (.bl true) S) : andV f g env S = g env S := by
  simp [andV, bd, h, asB, pur]
theorem andV_f {f g : Env → M D} {env : Env} {S : Store} (h : f env S = .ok (.bl false) S) : andV f g env S = .ok (.bl false) S := by
  simp [andV, bd, h, asB, pur]
theorem getv_ok {i : Nat} {env : Env} {S : Store} {d : D} (h : env[i]? = some (some d)) : getv i env S = .ok d S := by
  simp only [getv, h, pur]
theorem tst_ok {f : Env → M D} {env : Env} {S S' : Store} {c : Bool} (h : f env S = .ok (.bl c) S') : tst f env S = .ok c S' := by
  simp only [tst, bd, h, asB, pur]
theorem notB_ok {f : Env → M Bool} {env : Env} {S S' : Store} {c : Bool} (h : f env S = .ok c S') : notB f env S = .ok (!c) S' := by
  simp only [notB, bd, h, pur]
theorem ifS_t {p : Env → M Bool} {g g' : Env → MS} {env : Env} {S S' : Store} (h : p env S = .ok true S') : ifS p g g' env S = g env S' := by
  simp only [ifS, lft, h, if_true]
theorem ifS_f {p : Env → M Bool} {g g' : Env → MS} {env : Env} {S S' : Store} (h : p env S = .ok false S') : ifS p g g' env S = g' env S' := by
  simp [ifS, lft, h]
theorem seq_nx {g g' : Env → MS} {env env' : Env} {S S' : Store} (h : g env S = .ok (.nx env') S') : seqS g g' env S = g' env' S' := by
  simp only [seqS, h]
theorem seq_rt {g g' : Env → MS} {env : Env} {S S' : Store} {d : D} (h : g env S = .ok (.rt d) S') : seqS g g' env S = .ok (.rt d) S' := by
  simp only [seqS, h]
theorem set_ok {i : Nat} {f : Env → M D} {env : Env} {S S' : Store} {d : D} (h : f env S = .ok d S') : Fx.set i f env S = .ok (.nx (env.set i (some d))) S' := by
  simp only [Fx.set, lft, h]
theorem for_ok {m : Env → M (List D)} {t : D → Env → Option Env} {b : Env → MS} {env : Env} {S S' : Store} {ds : List D} (h : m env S = .ok ds S') : forS m t b env S = loop t b ds env S' := by
  simp only [forS, lft, h]
end Fx
namespace K03
variable [Fx.Tabl]
open PySem PySem.Spec PyProof.Rows L2 Fx
abbrev big : Nat := 1048576
def intP : D → Bool
  | .int _ => true
  | _ => false
theorem is_integer_ok {n : Nat} {d : D} (S : Store) (h : gd n d = true) : g_is_integer [d] S = .ok (.bl (intP d)) S := by
  cases d <;> simp [gd] at h <;> simp [Fx.bodyD, Fx.ent, Fx.seqS, Fx.ifS, Fx.ret, Fx.set, Fx.drop, Fx.asg, Fx.lft, Fx.bd, Fx.pur, Fx.opt, Fx.tst, Fx.asB, Fx.bin, Fx.getv, Fx.cns, Fx.cal, Fx.un, Fx.andV, Fx.orV, Fx.notV, Fx.andB, Fx.orB, Fx.notB, Fx.iteV, Fx.isi, Fx.tyM, Fx.isT, Fx.dsp, Fx.itf, Fx.itm, Fx.pass, Fx.ite_ap, g_is_integer, b_is_integer, intP]
theorem law_integer_ok {n : Nat} {d : D} (S : Store) (h : gd n d = true) : g_law_integer [d] S = .ok (.bl (intP d)) S := by
  cases d <;> simp [gd] at h <;> simp [Fx.bodyD, Fx.ent, Fx.seqS, Fx.ifS, Fx.ret, Fx.set, Fx.drop, Fx.asg, Fx.lft, Fx.bd, Fx.pur, Fx.opt, Fx.tst, Fx.asB, Fx.bin, Fx.getv, Fx.cns, Fx.cal, Fx.un, Fx.andV, Fx.orV, Fx.notV, Fx.andB, Fx.orB, Fx.notB, Fx.iteV, Fx.isi, Fx.tyM, Fx.isT, Fx.dsp, Fx.itf, Fx.itm, Fx.pass, Fx.ite_ap, g_law_integer, b_law_integer, intP]
def low (c : Nat) : Bool := decide (97 ≤ c ∧ c ≤ 122)
def nameP : D → Bool
  | .str x => decide (1 ≤ x.length ∧ x.length ≤ 8) && x.cps.toList.all low
  | _ => false
theorem letters_in (c : Nat) : decide (c ∈ ("abcdefghijklmnopqrstuvwxyz" : Str).cps.toList) = low c := by
  have e : ("abcdefghijklmnopqrstuvwxyz" : Str).cps.toList = [97, 98, 99, 100, 101, 102, 103, 104, 105, 106, 107, 108, 109, 110, 111, 112, 113, 114, 115, 116, 117, 118, 119, 120, 121, 122] := by decide +kernel
  rw [e]
  unfold low
  congr 1
  simp only [List.mem_cons, List.not_mem_nil, or_false, eq_iff_iff]
  omega
theorem letters_in' (c : Nat) : decide (c ∈ ("abcdefghijklmnopqrstuvwxyz" : Str).cps) = low c := by
  rw [← letters_in]; simp
theorem toL_len (x : Str) : x.cps.toList.length = x.length := by simp [Str.length]
theorem is_name_ok {n : Nat} {d : D} (S : Store) (h : gd n d = true) (hw : wgt d ≤ big) : g_is_name [d] S = .ok (.bl (nameP d)) S := by
  cases d <;> simp [gd] at h
  case str x =>
    have hl : x.length ≤ sizeLine := Nat.le_trans hw (by decide)
    have e : cmp [1] mkL (itf (getv 0)) (toN 1) (fun _ => pur true) (bin (inD false) (getv 1) (fun _ => pur (.str "abcdefghijklmnopqrstuvwxyz"))) [some (.str x), none] S = .ok (.lst (x.cps.toList.map fun c => .bl (low c))) S := by
      simp only [cmp, bd, itf, itm, getv, pur, List.getElem?_cons_zero]
      rw [compL_pure (fun _ => true) (fun d => match d with | .str y => .bl (match signOf y with | some c => low c | none => false) | _ => .non)]
      · rw [List.nil_append, List.filter_eq_self.mpr (by simp), List.map_map, mkL_ok (by simp [toL_len]; exact hl)]
        simp [Function.comp, signOf]
      · intro d hd
        obtain ⟨c, hc, rfl⟩ := List.mem_map.mp hd
        refine ⟨_, rfl, rfl, fun _ => ?_⟩
        simp [Fx.bodyD, Fx.ent, Fx.seqS, Fx.ifS, Fx.ret, Fx.set, Fx.drop, Fx.asg, Fx.lft, Fx.bd, Fx.pur, Fx.opt, Fx.tst, Fx.asB, Fx.bin, Fx.getv, Fx.cns, Fx.cal, Fx.un, Fx.andV, Fx.orV, Fx.notV, Fx.andB, Fx.orB, Fx.notB, Fx.iteV, Fx.isi, Fx.tyM, Fx.isT, Fx.dsp, Fx.itf, Fx.itm, Fx.pass, Fx.ite_ap, toN, wipeE, inD, signOf, letters_in']
      · simp [toL_len]; exact hl
    by_cases h1 : 1 ≤ x.length
    · have h1' : (1 : Int) ≤ x.length := by omega
      by_cases h2 : x.length ≤ 8
      · have h2' : (x.length : Int) ≤ 8 := by omega
        simp [Fx.bodyD, Fx.ent, Fx.seqS, Fx.ifS, Fx.ret, Fx.set, Fx.drop, Fx.asg, Fx.lft, Fx.bd, Fx.pur, Fx.opt, Fx.tst, Fx.asB, Fx.bin, Fx.getv, Fx.cns, Fx.cal, Fx.un, Fx.andV, Fx.orV, Fx.notV, Fx.andB, Fx.orB, Fx.notB, Fx.iteV, Fx.isi, Fx.tyM, Fx.isT, Fx.dsp, Fx.itf, Fx.itm, Fx.pass, Fx.ite_ap, g_is_name, b_is_name, nameP, chn, lenD, hl, leD, e, allD_map, h1, h1', h2, h2']
      · have h2' : ¬ (x.length : Int) ≤ 8 := by omega
        simp [Fx.bodyD, Fx.ent, Fx.seqS, Fx.ifS, Fx.ret, Fx.set, Fx.drop, Fx.asg, Fx.lft, Fx.bd, Fx.pur, Fx.opt, Fx.tst, Fx.asB, Fx.bin, Fx.getv, Fx.cns, Fx.cal, Fx.un, Fx.andV, Fx.orV, Fx.notV, Fx.andB, Fx.orB, Fx.notB, Fx.iteV, Fx.isi, Fx.tyM, Fx.isT, Fx.dsp, Fx.itf, Fx.itm, Fx.pass, Fx.ite_ap, g_is_name, b_is_name, nameP, chn, lenD, hl, leD, e, allD_map, h1, h1', h2, h2']
    · have h1' : ¬ (1 : Int) ≤ x.length := by omega
      simp [Fx.bodyD, Fx.ent, Fx.seqS, Fx.ifS, Fx.ret, Fx.set, Fx.drop, Fx.asg, Fx.lft, Fx.bd, Fx.pur, Fx.opt, Fx.tst, Fx.asB, Fx.bin, Fx.getv, Fx.cns, Fx.cal, Fx.un, Fx.andV, Fx.orV, Fx.notV, Fx.andB, Fx.orB, Fx.notB, Fx.iteV, Fx.isi, Fx.tyM, Fx.isT, Fx.dsp, Fx.itf, Fx.itm, Fx.pass, Fx.ite_ap, g_is_name, b_is_name, nameP, chn, lenD, hl, leD, e, allD_map, h1, h1']
  all_goals simp [Fx.bodyD, Fx.ent, Fx.seqS, Fx.ifS, Fx.ret, Fx.set, Fx.drop, Fx.asg, Fx.lft, Fx.bd, Fx.pur, Fx.opt, Fx.tst, Fx.asB, Fx.bin, Fx.getv, Fx.cns, Fx.cal, Fx.un, Fx.andV, Fx.orV, Fx.notV, Fx.andB, Fx.orB, Fx.notB, Fx.iteV, Fx.isi, Fx.tyM, Fx.isT, Fx.dsp, Fx.itf, Fx.itm, Fx.pass, Fx.ite_ap, g_is_name, b_is_name, nameP]
theorem law_named_ok {n : Nat} {d : D} (S : Store) (h : gd n d = true) (hw : wgt d ≤ big) : g_law_named [d] S = .ok (.bl (nameP d)) S := by
  cases d <;> simp [gd] at h
  case str x =>
    have hl : x.length ≤ sizeLine := Nat.le_trans hw (by decide)
    have e : cmp [1] mkL (itf (getv 0)) (toN 1) (notB (tst (chn leD leD (fun _ => pur (.int 97)) (cal (cns (getv 1) (fun _ => pur [])) ordD) (fun _ => pur (.int 122))))) (getv 1) [some (.str x), none] S = .ok (.lst ((x.cps.toList.filter fun c => !low c).map fun c => .str ⟨#[c]⟩)) S := by
      simp only [cmp, bd, itf, itm, getv, pur, List.getElem?_cons_zero]
      rw [compL_pure (fun d => match d with | .str y => !(match signOf y with | some c => low c | none => false) | _ => false) id]
      · rw [List.nil_append, mkL_ok]
        · rw [List.filter_map, List.map_map]; rfl
        · rw [List.length_map]
          refine Nat.le_trans (List.length_filter_le _ _) ?_
          simp [toL_len]; exact hl
      · intro d hd
        obtain ⟨c, hc, rfl⟩ := List.mem_map.mp hd
        refine ⟨_, rfl, ?_, fun _ => ?_⟩
        · by_cases h1 : 97 ≤ c
          · have h1' : (97 : Int) ≤ c := by omega
            by_cases h2 : c ≤ 122
            · have h2' : (c : Int) ≤ 122 := by omega
              simp [Fx.bodyD, Fx.ent, Fx.seqS, Fx.ifS, Fx.ret, Fx.set, Fx.drop, Fx.asg, Fx.lft, Fx.bd, Fx.pur, Fx.opt, Fx.tst, Fx.asB, Fx.bin, Fx.getv, Fx.cns, Fx.cal, Fx.un, Fx.andV, Fx.orV, Fx.notV, Fx.andB, Fx.orB, Fx.notB, Fx.iteV, Fx.isi, Fx.tyM, Fx.isT, Fx.dsp, Fx.itf, Fx.itm, Fx.pass, Fx.ite_ap, toN, wipeE, chn, ordD, leD, signOf, Str.length, low, h1, h1', h2, h2']
            · have h2' : ¬ (c : Int) ≤ 122 := by omega
              simp [Fx.bodyD, Fx.ent, Fx.seqS, Fx.ifS, Fx.ret, Fx.set, Fx.drop, Fx.asg, Fx.lft, Fx.bd, Fx.pur, Fx.opt, Fx.tst, Fx.asB, Fx.bin, Fx.getv, Fx.cns, Fx.cal, Fx.un, Fx.andV, Fx.orV, Fx.notV, Fx.andB, Fx.orB, Fx.notB, Fx.iteV, Fx.isi, Fx.tyM, Fx.isT, Fx.dsp, Fx.itf, Fx.itm, Fx.pass, Fx.ite_ap, toN, wipeE, chn, ordD, leD, signOf, Str.length, low, h1, h1', h2, h2']
          · have h1' : ¬ (97 : Int) ≤ c := by omega
            simp [Fx.bodyD, Fx.ent, Fx.seqS, Fx.ifS, Fx.ret, Fx.set, Fx.drop, Fx.asg, Fx.lft, Fx.bd, Fx.pur, Fx.opt, Fx.tst, Fx.asB, Fx.bin, Fx.getv, Fx.cns, Fx.cal, Fx.un, Fx.andV, Fx.orV, Fx.notV, Fx.andB, Fx.orB, Fx.notB, Fx.iteV, Fx.isi, Fx.tyM, Fx.isT, Fx.dsp, Fx.itf, Fx.itm, Fx.pass, Fx.ite_ap, toN, wipeE, chn, ordD, leD, signOf, Str.length, low, h1, h1']
        · simp [Fx.bodyD, Fx.ent, Fx.seqS, Fx.ifS, Fx.ret, Fx.set, Fx.drop, Fx.asg, Fx.lft, Fx.bd, Fx.pur, Fx.opt, Fx.tst, Fx.asB, Fx.bin, Fx.getv, Fx.cns, Fx.cal, Fx.un, Fx.andV, Fx.orV, Fx.notV, Fx.andB, Fx.orB, Fx.notB, Fx.iteV, Fx.isi, Fx.tyM, Fx.isT, Fx.dsp, Fx.itf, Fx.itm, Fx.pass, Fx.ite_ap, toN, wipeE]
      · simp [toL_len]; exact hl
    have e2 : eqD (.lst ((x.cps.toList.filter fun c => !low c).map fun c => .str ⟨#[c]⟩)) (.lst []) S = .ok (.bl (x.cps.toList.all low)) S := by
      rw [eqD_eq (n := 0) (m := 0)]
      · rw [eqP_nilL, isEmpty_map', filt_all]
      · rw [gd, gds_mem]
        intro d hd
        obtain ⟨c, hc, rfl⟩ := List.mem_map.mp hd
        have hc := (List.mem_filter.mp hc).1
        obtain ⟨i, hi, rfl⟩ := List.mem_iff_getElem.mp hc
        have := h i (by simpa using hi)
        simpa [gd] using this
      · rfl
      · refine Nat.le_trans (dep_lst (k := 0) fun d hd => ?_) (by decide)
        obtain ⟨c, hc, rfl⟩ := List.mem_map.mp hd
        exact Nat.le_refl _
      · decide
    by_cases h1 : 0 < x.length
    · have h1' : (0 : Int) < x.length := by omega
      by_cases h2 : x.length < 9
      · have h2' : (x.length : Int) < 9 := by omega
        have h3 : x.length ≤ 8 := by omega
        have h4 : 1 ≤ x.length := by omega
        simp [Fx.bodyD, Fx.ent, Fx.seqS, Fx.ifS, Fx.ret, Fx.set, Fx.drop, Fx.asg, Fx.lft, Fx.bd, Fx.pur, Fx.opt, Fx.tst, Fx.asB, Fx.bin, Fx.getv, Fx.cns, Fx.cal, Fx.un, Fx.andV, Fx.orV, Fx.notV, Fx.andB, Fx.orB, Fx.notB, Fx.iteV, Fx.isi, Fx.tyM, Fx.isT, Fx.dsp, Fx.itf, Fx.itm, Fx.pass, Fx.ite_ap, g_law_named, b_law_named, nameP, chn, lenD, hl, ltD, e, h1, h1', h2, h2', h3, h4, mkL_ok, e2]
      · have h2' : ¬ (x.length : Int) < 9 := by omega
        have h3 : ¬ x.length ≤ 8 := by omega
        simp [Fx.bodyD, Fx.ent, Fx.seqS, Fx.ifS, Fx.ret, Fx.set, Fx.drop, Fx.asg, Fx.lft, Fx.bd, Fx.pur, Fx.opt, Fx.tst, Fx.asB, Fx.bin, Fx.getv, Fx.cns, Fx.cal, Fx.un, Fx.andV, Fx.orV, Fx.notV, Fx.andB, Fx.orB, Fx.notB, Fx.iteV, Fx.isi, Fx.tyM, Fx.isT, Fx.dsp, Fx.itf, Fx.itm, Fx.pass, Fx.ite_ap, g_law_named, b_law_named, nameP, chn, lenD, hl, ltD, e, h1, h1', h2, h2', h3]
    · have h1' : ¬ (0 : Int) < x.length := by omega
      have h4 : ¬ 1 ≤ x.length := by omega
      simp [Fx.bodyD, Fx.ent, Fx.seqS, Fx.ifS, Fx.ret, Fx.set, Fx.drop, Fx.asg, Fx.lft, Fx.bd, Fx.pur, Fx.opt, Fx.tst, Fx.asB, Fx.bin, Fx.getv, Fx.cns, Fx.cal, Fx.un, Fx.andV, Fx.orV, Fx.notV, Fx.andB, Fx.orB, Fx.notB, Fx.iteV, Fx.isi, Fx.tyM, Fx.isT, Fx.dsp, Fx.itf, Fx.itm, Fx.pass, Fx.ite_ap, g_law_named, b_law_named, nameP, chn, lenD, hl, ltD, e, h1, h1', h4]
  all_goals simp [Fx.bodyD, Fx.ent, Fx.seqS, Fx.ifS, Fx.ret, Fx.set, Fx.drop, Fx.asg, Fx.lft, Fx.bd, Fx.pur, Fx.opt, Fx.tst, Fx.asB, Fx.bin, Fx.getv, Fx.cns, Fx.cal, Fx.un, Fx.andV, Fx.orV, Fx.notV, Fx.andB, Fx.orB, Fx.notB, Fx.iteV, Fx.isi, Fx.tyM, Fx.isT, Fx.dsp, Fx.itf, Fx.itm, Fx.pass, Fx.ite_ap, g_law_named, b_law_named, nameP]
def rangeP : D → Bool
  | .tup [.int a, .int b] => decide (a ≤ b)
  | _ => false
def kindP (d : D) : Bool := nameP d || rangeP d
theorem gd_tup2 {n : Nat} {a b : D} (h : gd n (.tup [a, b]) = true) : gd n a = true ∧ gd n b = true := by simpa [gd, gds] using h
theorem neD_int (a b : Int) (S : Store) : neD (.int a) (.int b) S = .ok (.bl (!(a == b))) S := neD_eq (n := a.natAbs) (m := b.natAbs) (by simp [gd]) (by simp [gd]) (Nat.zero_le _) (Nat.zero_le _)
theorem eqD_int (a b : Int) (S : Store) : eqD (.int a) (.int b) S = .ok (.bl (a == b)) S := eqD_eq (n := a.natAbs) (m := b.natAbs) (by simp [gd]) (by simp [gd]) (Nat.zero_le _) (Nat.zero_le _)
theorem ix20 (a b : D) (S : Store) : ixD (.tup [a, b]) (.int 0) S = .ok a S := rfl
theorem ix21 (a b : D) (S : Store) : ixD (.tup [a, b]) (.int 1) S = .ok b S := rfl
theorem is_range_ok {n : Nat} {d : D} (S : Store) (h : gd n d = true) : g_is_range [d] S = .ok (.bl (rangeP d)) S := by
  cases d
  case tup ds =>
    match ds, h with
    | [], _ => simp [Fx.bodyD, Fx.ent, Fx.seqS, Fx.ifS, Fx.ret, Fx.set, Fx.drop, Fx.asg, Fx.lft, Fx.bd, Fx.pur, Fx.opt, Fx.tst, Fx.asB, Fx.bin, Fx.getv, Fx.cns, Fx.cal, Fx.un, Fx.andV, Fx.orV, Fx.notV, Fx.andB, Fx.orB, Fx.notB, Fx.iteV, Fx.isi, Fx.tyM, Fx.isT, Fx.dsp, Fx.itf, Fx.itm, Fx.pass, Fx.ite_ap, g_is_range, b_is_range, rangeP, lenD, neD_int]
    | [a], _ => simp [Fx.bodyD, Fx.ent, Fx.seqS, Fx.ifS, Fx.ret, Fx.set, Fx.drop, Fx.asg, Fx.lft, Fx.bd, Fx.pur, Fx.opt, Fx.tst, Fx.asB, Fx.bin, Fx.getv, Fx.cns, Fx.cal, Fx.un, Fx.andV, Fx.orV, Fx.notV, Fx.andB, Fx.orB, Fx.notB, Fx.iteV, Fx.isi, Fx.tyM, Fx.isT, Fx.dsp, Fx.itf, Fx.itm, Fx.pass, Fx.ite_ap, g_is_range, b_is_range, rangeP, lenD, neD_int]
    | [a, b], h =>
      obtain ⟨ha, hb⟩ := gd_tup2 h
      have e1 := is_integer_ok S ha
      have e2 := is_integer_ok S hb
      simp [Fx.bodyD, Fx.ent, Fx.seqS, Fx.ifS, Fx.ret, Fx.set, Fx.drop, Fx.asg, Fx.lft, Fx.bd, Fx.pur, Fx.opt, Fx.tst, Fx.asB, Fx.bin, Fx.getv, Fx.cns, Fx.cal, Fx.un, Fx.andV, Fx.orV, Fx.notV, Fx.andB, Fx.orB, Fx.notB, Fx.iteV, Fx.isi, Fx.tyM, Fx.isT, Fx.dsp, Fx.itf, Fx.itm, Fx.pass, Fx.ite_ap, g_is_range, b_is_range, lenD, neD_int, ix20, ix21, e1, e2]
      cases a <;> simp [intP, rangeP]
      cases b <;> simp [intP, rangeP, leD, pur]
    | a :: b :: c :: r, _ =>
      have e : ((r.length : Int) + 1 + 1 + 1 == 2) = false := by rw [beq_eq_false_iff_ne]; omega
      simp [Fx.bodyD, Fx.ent, Fx.seqS, Fx.ifS, Fx.ret, Fx.set, Fx.drop, Fx.asg, Fx.lft, Fx.bd, Fx.pur, Fx.opt, Fx.tst, Fx.asB, Fx.bin, Fx.getv, Fx.cns, Fx.cal, Fx.un, Fx.andV, Fx.orV, Fx.notV, Fx.andB, Fx.orB, Fx.notB, Fx.iteV, Fx.isi, Fx.tyM, Fx.isT, Fx.dsp, Fx.itf, Fx.itm, Fx.pass, Fx.ite_ap, g_is_range, b_is_range, rangeP, lenD, neD_int, e]
  all_goals (first | (simp [gd] at h; done) | simp [Fx.bodyD, Fx.ent, Fx.seqS, Fx.ifS, Fx.ret, Fx.set, Fx.drop, Fx.asg, Fx.lft, Fx.bd, Fx.pur, Fx.opt, Fx.tst, Fx.asB, Fx.bin, Fx.getv, Fx.cns, Fx.cal, Fx.un, Fx.andV, Fx.orV, Fx.notV, Fx.andB, Fx.orB, Fx.notB, Fx.iteV, Fx.isi, Fx.tyM, Fx.isT, Fx.dsp, Fx.itf, Fx.itm, Fx.pass, Fx.ite_ap, g_is_range, b_is_range, rangeP])
theorem is_kind_ok {n : Nat} {d : D} (S : Store) (h : gd n d = true) (hw : wgt d ≤ big) : g_is_kind [d] S = .ok (.bl (kindP d)) S := by
  have e1 := is_name_ok S h hw
  have e2 := is_range_ok S h
  cases q : nameP d <;> simp [Fx.bodyD, Fx.ent, Fx.seqS, Fx.ifS, Fx.ret, Fx.set, Fx.drop, Fx.asg, Fx.lft, Fx.bd, Fx.pur, Fx.opt, Fx.tst, Fx.asB, Fx.bin, Fx.getv, Fx.cns, Fx.cal, Fx.un, Fx.andV, Fx.orV, Fx.notV, Fx.andB, Fx.orB, Fx.notB, Fx.iteV, Fx.isi, Fx.tyM, Fx.isT, Fx.dsp, Fx.itf, Fx.itm, Fx.pass, Fx.ite_ap, g_is_kind, b_is_kind, kindP, e1, e2, q]
theorem law_kinded_ok {n : Nat} {d : D} (S : Store) (h : gd n d = true) (hw : wgt d ≤ big) : g_law_kinded [d] S = .ok (.bl (kindP d)) S := by
  cases d
  case str x =>
    have e1 := law_named_ok S h hw
    simp [Fx.bodyD, Fx.ent, Fx.seqS, Fx.ifS, Fx.ret, Fx.set, Fx.drop, Fx.asg, Fx.lft, Fx.bd, Fx.pur, Fx.opt, Fx.tst, Fx.asB, Fx.bin, Fx.getv, Fx.cns, Fx.cal, Fx.un, Fx.andV, Fx.orV, Fx.notV, Fx.andB, Fx.orB, Fx.notB, Fx.iteV, Fx.isi, Fx.tyM, Fx.isT, Fx.dsp, Fx.itf, Fx.itm, Fx.pass, Fx.ite_ap, g_law_kinded, b_law_kinded, kindP, e1, rangeP]
  case tup ds =>
    match ds, h with
    | [], _ => simp [Fx.bodyD, Fx.ent, Fx.seqS, Fx.ifS, Fx.ret, Fx.set, Fx.drop, Fx.asg, Fx.lft, Fx.bd, Fx.pur, Fx.opt, Fx.tst, Fx.asB, Fx.bin, Fx.getv, Fx.cns, Fx.cal, Fx.un, Fx.andV, Fx.orV, Fx.notV, Fx.andB, Fx.orB, Fx.notB, Fx.iteV, Fx.isi, Fx.tyM, Fx.isT, Fx.dsp, Fx.itf, Fx.itm, Fx.pass, Fx.ite_ap, g_law_kinded, b_law_kinded, kindP, nameP, rangeP, lenD, neD_int]
    | [a], _ => simp [Fx.bodyD, Fx.ent, Fx.seqS, Fx.ifS, Fx.ret, Fx.set, Fx.drop, Fx.asg, Fx.lft, Fx.bd, Fx.pur, Fx.opt, Fx.tst, Fx.asB, Fx.bin, Fx.getv, Fx.cns, Fx.cal, Fx.un, Fx.andV, Fx.orV, Fx.notV, Fx.andB, Fx.orB, Fx.notB, Fx.iteV, Fx.isi, Fx.tyM, Fx.isT, Fx.dsp, Fx.itf, Fx.itm, Fx.pass, Fx.ite_ap, g_law_kinded, b_law_kinded, kindP, nameP, rangeP, lenD, neD_int]
    | [a, b], h =>
      obtain ⟨ha, hb⟩ := gd_tup2 h
      have e1 := law_integer_ok S ha
      have e2 := law_integer_ok S hb
      cases a <;> cases b <;> simp only [intP] at e1 e2 <;> simp [Fx.bodyD, Fx.ent, Fx.seqS, Fx.ifS, Fx.ret, Fx.set, Fx.drop, Fx.asg, Fx.lft, Fx.bd, Fx.pur, Fx.opt, Fx.tst, Fx.asB, Fx.bin, Fx.getv, Fx.cns, Fx.cal, Fx.un, Fx.andV, Fx.orV, Fx.notV, Fx.andB, Fx.orB, Fx.notB, Fx.iteV, Fx.isi, Fx.tyM, Fx.isT, Fx.dsp, Fx.itf, Fx.itm, Fx.pass, Fx.ite_ap, g_law_kinded, b_law_kinded, kindP, nameP, rangeP, lenD, neD_int, ix20, ix21, e1, e2, leD]
    | a :: b :: c :: r, _ =>
      have e : ((r.length : Int) + 1 + 1 + 1 == 2) = false := by rw [beq_eq_false_iff_ne]; omega
      simp [Fx.bodyD, Fx.ent, Fx.seqS, Fx.ifS, Fx.ret, Fx.set, Fx.drop, Fx.asg, Fx.lft, Fx.bd, Fx.pur, Fx.opt, Fx.tst, Fx.asB, Fx.bin, Fx.getv, Fx.cns, Fx.cal, Fx.un, Fx.andV, Fx.orV, Fx.notV, Fx.andB, Fx.orB, Fx.notB, Fx.iteV, Fx.isi, Fx.tyM, Fx.isT, Fx.dsp, Fx.itf, Fx.itm, Fx.pass, Fx.ite_ap, g_law_kinded, b_law_kinded, kindP, nameP, rangeP, lenD, neD_int, e]
  all_goals (first | (simp [gd] at h; done) | simp [Fx.bodyD, Fx.ent, Fx.seqS, Fx.ifS, Fx.ret, Fx.set, Fx.drop, Fx.asg, Fx.lft, Fx.bd, Fx.pur, Fx.opt, Fx.tst, Fx.asB, Fx.bin, Fx.getv, Fx.cns, Fx.cal, Fx.un, Fx.andV, Fx.orV, Fx.notV, Fx.andB, Fx.orB, Fx.notB, Fx.iteV, Fx.isi, Fx.tyM, Fx.isT, Fx.dsp, Fx.itf, Fx.itm, Fx.pass, Fx.ite_ap, g_law_kinded, b_law_kinded, kindP, nameP, rangeP])
end K03

end
/-! ## K03c -/
section
namespace K03
variable [Fx.Tabl]
open PySem Fx
open L2 (atI ixN)
theorem inR_of {n : Int} (h1 : -1000000000 ≤ n) (h2 : n ≤ 1000000000) : inR n := by unfold inR; constructor <;> omega
theorem rng2_ok {lo hi : Int} (h : inR lo ∧ inR hi) (S : Store) : rng2M [.int lo, .int hi] S = .ok (rng lo hi) S := by simp only [rng2M, if_pos h, pur]
theorem rng1_ok {hi : Int} (h : inR hi) (S : Store) : rng1M [.int hi] S = .ok (rng 0 hi) S := by simp only [rng1M, if_pos h, pur]
theorem itr2_ok {t : Fx.Env → M (List D)} {env : Fx.Env} {lo hi : Int} {S : Store} (ht : t env S = .ok [.int lo, .int hi] S) (h : inR lo ∧ inR hi) : itr2 t env S = .ok (rng lo hi) S := by
  simp only [itr2, bd, ht, rng2_ok h S]
theorem itr1_ok {t : Fx.Env → M (List D)} {env : Fx.Env} {hi : Int} {S : Store} (ht : t env S = .ok [.int hi] S) (h : inR hi) : itr1 t env S = .ok (rng 0 hi) S := by
  simp only [itr1, bd, ht, rng1_ok h S]
theorem atI_nat {α : Type} {xs : List α} {k : Nat} (h : k < xs.length) : atI xs (k : Int) = xs[k]? := by
  unfold atI ixN
  rw [if_pos (by omega), if_pos (by omega)]
  rfl
theorem ix_lst {xs : List D} {i : Int} {k : Nat} {d : D} {S : Store} (hi : i = k) (h : xs[k]? = some d) : ixD (.lst xs) (.int i) S = .ok d S := by
  subst hi
  simp only [ixD, seqLT, seqL, seqM, bd, pur, atI_nat (Fx.lt_of_some h), h, opt]
def sD : D → Str
  | .str x => x
  | _ => ""
theorem map_at {xs : List Str} {k : Nat} (h : k < xs.length) : (xs.map D.str)[k]? = some (.str (xs.getD k "")) := by
  rw [List.getElem?_map, List.getElem?_eq_getElem h]
  simp [List.getD, List.getElem?_eq_getElem h]
def ltS (x y : Str) : Bool := decide (x.cps.toList < y.cps.toList)
def ascS (xs : List Str) : Bool := (List.range (xs.length - 1)).all fun k => ltS (xs.getD k "") (xs.getD (k + 1) "")
theorem ascends_ok (xs : List Str) (S : Store) (hl : xs.length ≤ big) : g_ascends [.lst (xs.map D.str)] S = .ok (.bl (ascS xs)) S := by
  have hi : inR ((xs.length : Int) - 1) := by unfold inR; have : xs.length ≤ 1048576 := hl; constructor <;> omega
  have hn : ((xs.length : Int) - 1 - 0).toNat = xs.length - 1 := by omega
  have e : cmp [1] mkL (itr1 (cns (bin subD (cal (cns (getv 0) (fun _ => pur [])) lenD) (fun _ => pur (.int 1))) (fun _ => pur []))) (toN 1) (fun _ => pur true) (bin ltD (bin ixD (getv 0) (getv 1)) (bin ixD (getv 0) (bin (addD mkL) (getv 1) (fun _ => pur (.int 1))))) [some (.lst (xs.map D.str)), none] S
      = .ok (.lst ((List.range (xs.length - 1)).map fun k => .bl (ltS (xs.getD k "") (xs.getD (k + 1) "")))) S := by
    rw [cmp_ok (rng 0 (xs.length - 1)) (fun _ => true) (fun d => match d with | .int k => .bl (ltS (xs.getD k.toNat "") (xs.getD (k.toNat + 1) "")) | _ => .non)]
    · rw [List.filter_eq_self.mpr (by simp), rng, hn, List.map_map]
      congr 2
      refine List.map_congr_left fun k _ => ?_
      simp [Function.comp]
    · simp [Fx.bodyD, Fx.ent, Fx.seqS, Fx.ifS, Fx.ret, Fx.set, Fx.drop, Fx.asg, Fx.lft, Fx.bd, Fx.pur, Fx.opt, Fx.tst, Fx.asB, Fx.bin, Fx.getv, Fx.cns, Fx.cal, Fx.un, Fx.andV, Fx.orV, Fx.notV, Fx.andB, Fx.orB, Fx.notB, Fx.iteV, Fx.isi, Fx.tyM, Fx.isT, Fx.dsp, Fx.itf, Fx.itm, Fx.pass, Fx.ite_ap, itr1, subD, lenD, rng1M, hi]
    · intro d hd
      rw [rng, hn] at hd
      obtain ⟨k, hk, rfl⟩ := List.mem_map.mp hd
      have hk := List.mem_range.mp hk
      refine ⟨_, rfl, rfl, fun _ => ?_⟩
      have a1 : ixD (.lst (xs.map D.str)) (.int (0 + k)) S = .ok (.str (xs.getD k "")) S := ix_lst (k := k) (by omega) (map_at (by omega))
      have a2 : ixD (.lst (xs.map D.str)) (.int (0 + k + 1)) S = .ok (.str (xs.getD (k + 1) "")) S := ix_lst (k := k + 1) (by omega) (map_at (by omega))
      simp only [toN, wipeE, bin, bd, getv, pur, addD]
      simp only [List.set_cons_succ, List.set_cons_zero, List.getElem?_cons_zero, List.getElem?_cons_succ, a1, a2, ltD, pur]
      have : (0 + (k : Int)).toNat = k := by omega
      rw [this]; rfl
    · rw [rng, hn]; simp; have : big ≤ sizeLine := by decide
      omega
  have e3 := allD_map (fun k => ltS (xs.getD k "") (xs.getD (k + 1) "")) (List.range (xs.length - 1)) S
  show (match b_ascends [some (.lst (xs.map D.str)), none] S with | .ok (.rt d) S' => Rs.ok d S' | .ok (.nx _) S' => .ok .non S' | .ex e _ S' => .ex e S' | _ => .no) = _
  simp only [b_ascends, Fx.ret, lft, cal, cns, bd, e, pur, e3]
  rfl
theorem rises_ok (xs : List Str) (S : Store) (hl : xs.length ≤ big) : g_law_rises [.lst (xs.map D.str)] S = .ok (.bl (ascS xs)) S := by
  have hi : inR (1 : Int) ∧ inR (xs.length : Int) := ⟨inR_of (by decide) (by decide), inR_of (by omega) (by have : xs.length ≤ 1048576 := hl; omega)⟩
  have hn : ((xs.length : Int) - 1).toNat = xs.length - 1 := by omega
  let q : Nat → Bool := fun k => ltS (xs.getD k "") (xs.getD (k + 1) "")
  have e : cmp [1] mkL (itr2 (cns (fun _ => pur (.int 1)) (cns (cal (cns (getv 0) (fun _ => pur [])) lenD) (fun _ => pur [])))) (toN 1) (tst (bin geD (bin ixD (getv 0) (bin subD (getv 1) (fun _ => pur (.int 1)))) (bin ixD (getv 0) (getv 1)))) (getv 1) [some (.lst (xs.map D.str)), none] S
      = .ok (.lst (((List.range (xs.length - 1)).filter fun k => !q k).map fun (k : Nat) => .int (1 + k))) S := by
    rw [cmp_ok (rng 1 xs.length) (fun d => match d with | .int k => !q (k - 1).toNat | _ => false) id]
    · rw [List.map_id, rng, hn, List.filter_map]
      congr 3
      refine List.filter_congr fun k _ => ?_
      have : (1 + (k : Int) - 1).toNat = k := by omega
      simp only [Function.comp, this]
    · refine itr2_ok ?_ hi
      simp [Fx.bodyD, Fx.ent, Fx.seqS, Fx.ifS, Fx.ret, Fx.set, Fx.drop, Fx.asg, Fx.lft, Fx.bd, Fx.pur, Fx.opt, Fx.tst, Fx.asB, Fx.bin, Fx.getv, Fx.cns, Fx.cal, Fx.un, Fx.andV, Fx.orV, Fx.notV, Fx.andB, Fx.orB, Fx.notB, Fx.iteV, Fx.isi, Fx.tyM, Fx.isT, Fx.dsp, Fx.itf, Fx.itm, Fx.pass, Fx.ite_ap, lenD]
    · intro d hd
      rw [rng, hn] at hd
      obtain ⟨k, hk, rfl⟩ := List.mem_map.mp hd
      have hk := List.mem_range.mp hk
      have a1 : ixD (.lst (xs.map D.str)) (.int (1 + k - 1)) S = .ok (.str (xs.getD k "")) S := ix_lst (k := k) (by omega) (map_at (by omega))
      have a2 : ixD (.lst (xs.map D.str)) (.int (1 + k)) S = .ok (.str (xs.getD (k + 1) "")) S := ix_lst (k := k + 1) (by omega) (map_at (by omega))
      have : (1 + (k : Int) - 1).toNat = k := by omega
      refine ⟨_, rfl, ?_, fun _ => ?_⟩
      · simp only [toN, wipeE, tst, bin, bd, getv, pur, subD]
        simp only [List.set_cons_succ, List.set_cons_zero, List.getElem?_cons_zero, List.getElem?_cons_succ, a1, a2, geD, pur, asB, this]
        rfl
      · simp [Fx.bodyD, Fx.ent, Fx.seqS, Fx.ifS, Fx.ret, Fx.set, Fx.drop, Fx.asg, Fx.lft, Fx.bd, Fx.pur, Fx.opt, Fx.tst, Fx.asB, Fx.bin, Fx.getv, Fx.cns, Fx.cal, Fx.un, Fx.andV, Fx.orV, Fx.notV, Fx.andB, Fx.orB, Fx.notB, Fx.iteV, Fx.isi, Fx.tyM, Fx.isT, Fx.dsp, Fx.itf, Fx.itm, Fx.pass, Fx.ite_ap, toN, wipeE]
    · rw [rng, hn]; simp; have : big ≤ sizeLine := by decide
      omega
  have e2 : eqD (.lst (((List.range (xs.length - 1)).filter fun k => !q k).map fun (k : Nat) => .int (1 + k))) (.lst []) S = .ok (.bl (ascS xs)) S := by
    rw [eqD_eq (n := xs.length) (m := 0)]
    · rw [eqP_nilL, isEmpty_map', filt_all]; rfl
    · rw [gd, gds_mem]
      intro d hd
      obtain ⟨k, hk, rfl⟩ := List.mem_map.mp hd
      have hk := List.mem_range.mp (List.mem_filter.mp hk).1
      simp only [gd, decide_eq_true_eq]; omega
    · rfl
    · refine Nat.le_trans (dep_lst (k := 0) fun d hd => ?_) (by decide)
      obtain ⟨c, hc, rfl⟩ := List.mem_map.mp hd
      exact Nat.le_refl _
    · decide
  have e4 := ret_ok ((bin_ok (g := eqD) e (nilL _ _)).trans e2)
  refine body_rt rfl (S' := S) ?_
  have h0 : ent 2 [.lst (xs.map D.str)] = [some (.lst (xs.map D.str)), none] := rfl
  rw [h0]
  exact e4
end K03

end
/-! ## K03d -/
section
namespace K03
variable [Fx.Tabl]
open PySem Fx
open L2 (atI ixN)
def pairP : D → Bool
  | .tup ds => ((ds.length : Int) == 2)
  | _ => false
def fstD : D → D
  | .tup (a :: _) => a
  | _ => .non
def sndD : D → D
  | .tup (_ :: b :: _) => b
  | _ => .non
theorem pairP_inv {d : D} (h : pairP d = true) : ∃ a b, d = .tup [a, b] := by
  cases d <;> simp [pairP] at h
  rename_i ds
  match ds, h with
  | [a, b], _ => exact ⟨a, b, rfl⟩
  | [], h => simp at h
  | [a], h => simp at h
  | a :: b :: c :: r, h => simp at h; omega
theorem nameP_str {d : D} (h : nameP d = true) : d = .str (sD d) := by
  cases d <;> simp [nameP] at h
  rfl
def rowsOf : D → List D
  | .tup rows => rows
  | _ => []
def isTup : D → Bool
  | .tup _ => true
  | _ => false
def namedP (d : D) : Bool := isTup d && (rowsOf d).all pairP && (rowsOf d).all (fun r => nameP (fstD r)) && ascS ((rowsOf d).map fun r => sD (fstD r))
/-- good data of at most this size -/
structure Ok (n : Nat) (d : D) : Prop where
  g : gd n d = true
  w : wgt d ≤ big
  p : dep d ≤ 60
theorem dep_mem {ds : List D} {d : D} {k : Nat} (h : d ∈ ds) (hk : PyData.depthAll (pys ds) ≤ k) : dep d ≤ k := depAll_le.mpr hk d h
theorem Ok.row {n : Nat} {rows : List D} (h : Ok n (.tup rows)) {r : D} (hr : r ∈ rows) : Ok n r := by
  refine ⟨gds_mem.mp (by simpa [gd] using h.g) r hr, ?_, ?_⟩
  · have := wgt_mem hr
    have hw : PyData.weightAll (pys rows) ≤ big := h.w
    omega
  · have hp : PyData.depthAll (pys rows) + 1 ≤ 60 := h.p
    exact dep_mem hr (by omega)
theorem Ok.len {n : Nat} {rows : List D} (h : Ok n (.tup rows)) : rows.length ≤ big := by
  have hw : PyData.weightAll (pys rows) ≤ big := h.w
  have := len_pys rows
  omega
theorem big_le : big ≤ sizeLine := by decide
theorem Ok.fst {n : Nat} {d : D} (h : Ok n d) : Ok n (fstD d) := by
  have z : Ok n D.non := ⟨rfl, by decide, by decide⟩
  cases d <;> try exact z
  rename_i ds
  cases ds with
  | nil => exact z
  | cons a r => exact h.row (r := a) (by simp)
theorem Ok.snd {n : Nat} {d : D} (h : Ok n d) : Ok n (sndD d) := by
  have z : Ok n D.non := ⟨rfl, by decide, by decide⟩
  cases d <;> try exact z
  rename_i ds
  match ds with
  | [] => exact z
  | [a] => exact z
  | a :: b :: r => exact h.row (r := b) (by simp)
theorem names_str {rows : List D} (h : rows.all (fun r => nameP (fstD r)) = true) : rows.map fstD = (rows.map fun r => sD (fstD r)).map D.str := by
  rw [List.map_map]
  refine List.map_congr_left fun r hr => ?_
  exact nameP_str (List.all_eq_true.mp h r hr)
theorem eqInt (n : Nat) (m : Int) (S : Store) : eqD (.int n) (.int m) S = .ok (.bl ((n : Int) == m)) S := eqD_int _ _ S
theorem are_named_ok {n : Nat} {d : D} (S : Store) (h : Ok n d) : g_are_named [d] S = .ok (.bl (namedP d)) S := by
  cases d
  case tup rows =>
    have hl := h.len
    have hl2 : rows.length ≤ sizeLine := Nat.le_trans hl big_le
    have e1 : cmp [1] mkL (itf (getv 0)) (toN 1) (fun _ => pur true) (andV (isi "tuple" (getv 1)) (bin eqD (cal (cns (getv 1) (fun _ => pur [])) lenD) (fun _ => pur (.int 2)))) [some (.tup rows), none, none, none, none] S = .ok (.lst (rows.map fun r => .bl (pairP r))) S := by
      rw [cmp_ok rows (fun _ => true) (fun r => .bl (pairP r)) rfl ?_ hl2, List.filter_eq_self.mpr (by simp)]
      intro r hr
      refine ⟨_, rfl, rfl, fun _ => ?_⟩
      have hg := (h.row hr).g
      cases r <;> first
        | (simp [gd] at hg; done)
        | simp [Fx.bodyD, Fx.ent, Fx.seqS, Fx.ifS, Fx.ret, Fx.set, Fx.drop, Fx.asg, Fx.lft, Fx.bd, Fx.pur, Fx.opt, Fx.tst, Fx.asB, Fx.bin, Fx.getv, Fx.cns, Fx.cal, Fx.un, Fx.andV, Fx.orV, Fx.notV, Fx.andB, Fx.orB, Fx.notB, Fx.iteV, Fx.isi, Fx.tyM, Fx.isT, Fx.dsp, Fx.itf, Fx.itm, Fx.pass, Fx.ite_ap, toN, wipeE, lenD, eqInt, pairP]
    by_cases hp : rows.all pairP = true
    case neg =>
      have hp : rows.all pairP = false := by simpa using hp
      simp [Fx.bodyD, Fx.ent, Fx.seqS, Fx.ifS, Fx.ret, Fx.set, Fx.drop, Fx.asg, Fx.lft, Fx.bd, Fx.pur, Fx.opt, Fx.tst, Fx.asB, Fx.bin, Fx.getv, Fx.cns, Fx.cal, Fx.un, Fx.andV, Fx.orV, Fx.notV, Fx.andB, Fx.orB, Fx.notB, Fx.iteV, Fx.isi, Fx.tyM, Fx.isT, Fx.dsp, Fx.itf, Fx.itm, Fx.pass, Fx.ite_ap, g_are_named, b_are_named, e1, allD_map, hp, namedP, isTup, rowsOf]
    have e2 : cmp [3, 4] mkL (itf (getv 0)) (toTup (toCons (toN 3) (toCons (toN 4) toNil))) (fun _ => pur true) (getv 3) [some (.tup rows), none, none, none, none] S = .ok (.lst (rows.map fstD)) S := by
      rw [cmp_ok rows (fun _ => true) fstD rfl ?_ hl2, List.filter_eq_self.mpr (by simp)]
      intro r hr
      obtain ⟨a, b, rfl⟩ := pairP_inv (List.all_eq_true.mp hp r hr)
      refine ⟨_, rfl, rfl, fun _ => ?_⟩
      simp [Fx.bodyD, Fx.ent, Fx.seqS, Fx.ifS, Fx.ret, Fx.set, Fx.drop, Fx.asg, Fx.lft, Fx.bd, Fx.pur, Fx.opt, Fx.tst, Fx.asB, Fx.bin, Fx.getv, Fx.cns, Fx.cal, Fx.un, Fx.andV, Fx.orV, Fx.notV, Fx.andB, Fx.orB, Fx.notB, Fx.iteV, Fx.isi, Fx.tyM, Fx.isT, Fx.dsp, Fx.itf, Fx.itm, Fx.pass, Fx.ite_ap, toN, wipeE, fstD]
    have e3 : cmp [3] mkL (itf (getv 2)) (toN 3) (fun _ => pur true) (cal (cns (getv 3) (fun _ => pur [])) g_is_name) [some (.tup rows), none, some (.lst (rows.map fstD)), none, none] S = .ok (.lst (rows.map fun r => .bl (nameP (fstD r)))) S := by
      rw [cmp_ok (rows.map fstD) (fun _ => true) (fun r => .bl (nameP r)) rfl ?_ (by simpa using hl2), List.filter_eq_self.mpr (by simp), List.map_map]
      · rfl
      intro a ha
      obtain ⟨r, hr, rfl⟩ := List.mem_map.mp ha
      refine ⟨_, rfl, rfl, fun _ => ?_⟩
      have hf := (h.row hr).fst
      have := is_name_ok S hf.g hf.w
      simp [Fx.bodyD, Fx.ent, Fx.seqS, Fx.ifS, Fx.ret, Fx.set, Fx.drop, Fx.asg, Fx.lft, Fx.bd, Fx.pur, Fx.opt, Fx.tst, Fx.asB, Fx.bin, Fx.getv, Fx.cns, Fx.cal, Fx.un, Fx.andV, Fx.orV, Fx.notV, Fx.andB, Fx.orB, Fx.notB, Fx.iteV, Fx.isi, Fx.tyM, Fx.isT, Fx.dsp, Fx.itf, Fx.itm, Fx.pass, Fx.ite_ap, toN, wipeE, this]
    by_cases hn : rows.all (fun r => nameP (fstD r)) = true
    · have e4 : g_ascends [.lst (rows.map fstD)] S = .ok (.bl (ascS (rows.map fun r => sD (fstD r)))) S := by
        rw [names_str hn]; exact ascends_ok _ S (by simpa using hl)
      simp [Fx.bodyD, Fx.ent, Fx.seqS, Fx.ifS, Fx.ret, Fx.set, Fx.drop, Fx.asg, Fx.lft, Fx.bd, Fx.pur, Fx.opt, Fx.tst, Fx.asB, Fx.bin, Fx.getv, Fx.cns, Fx.cal, Fx.un, Fx.andV, Fx.orV, Fx.notV, Fx.andB, Fx.orB, Fx.notB, Fx.iteV, Fx.isi, Fx.tyM, Fx.isT, Fx.dsp, Fx.itf, Fx.itm, Fx.pass, Fx.ite_ap, g_are_named, b_are_named, e1, e2, e3, e4, allD_map, hp, hn, namedP, isTup, rowsOf]
    · have hn : rows.all (fun r => nameP (fstD r)) = false := by simpa using hn
      simp [Fx.bodyD, Fx.ent, Fx.seqS, Fx.ifS, Fx.ret, Fx.set, Fx.drop, Fx.asg, Fx.lft, Fx.bd, Fx.pur, Fx.opt, Fx.tst, Fx.asB, Fx.bin, Fx.getv, Fx.cns, Fx.cal, Fx.un, Fx.andV, Fx.orV, Fx.notV, Fx.andB, Fx.orB, Fx.notB, Fx.iteV, Fx.isi, Fx.tyM, Fx.isT, Fx.dsp, Fx.itf, Fx.itm, Fx.pass, Fx.ite_ap, g_are_named, b_are_named, e1, e2, e3, allD_map, hp, hn, namedP, isTup, rowsOf]
  all_goals (have hg := h.g; first | (simp [gd] at hg; done) | simp [Fx.bodyD, Fx.ent, Fx.seqS, Fx.ifS, Fx.ret, Fx.set, Fx.drop, Fx.asg, Fx.lft, Fx.bd, Fx.pur, Fx.opt, Fx.tst, Fx.asB, Fx.bin, Fx.getv, Fx.cns, Fx.cal, Fx.un, Fx.andV, Fx.orV, Fx.notV, Fx.andB, Fx.orB, Fx.notB, Fx.iteV, Fx.isi, Fx.tyM, Fx.isT, Fx.dsp, Fx.itf, Fx.itm, Fx.pass, Fx.ite_ap, g_are_named, b_are_named, namedP, isTup])
theorem law_pairs_ok {n : Nat} {d : D} (S : Store) (h : Ok n d) : g_law_pairs_of [d] S = .ok (.bl (namedP d)) S := by
  cases d
  case tup rows =>
    have hl := h.len
    have hl2 : rows.length ≤ sizeLine := Nat.le_trans hl big_le
    let p : D → Bool := fun r => pairP r && nameP (fstD r)
    obtain ⟨L1, L2⟩ := loop_all (t := toN 1) (b := (ifS (orB (notB (tst (isi "tuple" (getv 1)))) (orB (tst (bin neD (cal (cns (getv 1) (fun _ => pur [])) lenD) (fun _ => pur (.int 2)))) (notB (tst (cal (cns (bin ixD (getv 1) (fun _ => pur (.int 0))) (fun _ => pur [])) g_law_named))))) (ret (fun _ => pur (.bl false))) pass)) (S := S)
      (fun env => ∃ z, env = [some (.tup rows), z]) p (.bl false) rows [some (.tup rows), none] ⟨_, rfl⟩ (by
        rintro r hr env ⟨z, rfl⟩
        refine ⟨_, rfl, ?_⟩
        have hok := h.row hr
        have hg := hok.g
        cases r <;> first
          | (simp [gd] at hg; done)
          | skip
        case tup ds =>
          match ds, hok with
          | [], _ => refine ⟨fun z => ?_, fun z => ?_⟩ <;> first | (simp [p, pairP] at z; done) | simp [Fx.bodyD, Fx.ent, Fx.seqS, Fx.ifS, Fx.ret, Fx.set, Fx.drop, Fx.asg, Fx.lft, Fx.bd, Fx.pur, Fx.opt, Fx.tst, Fx.asB, Fx.bin, Fx.getv, Fx.cns, Fx.cal, Fx.un, Fx.andV, Fx.orV, Fx.notV, Fx.andB, Fx.orB, Fx.notB, Fx.iteV, Fx.isi, Fx.tyM, Fx.isT, Fx.dsp, Fx.itf, Fx.itm, Fx.pass, Fx.ite_ap, toN, lenD, neD_int]
          | [a], _ => refine ⟨fun z => ?_, fun z => ?_⟩ <;> first | (simp [p, pairP] at z; done) | simp [Fx.bodyD, Fx.ent, Fx.seqS, Fx.ifS, Fx.ret, Fx.set, Fx.drop, Fx.asg, Fx.lft, Fx.bd, Fx.pur, Fx.opt, Fx.tst, Fx.asB, Fx.bin, Fx.getv, Fx.cns, Fx.cal, Fx.un, Fx.andV, Fx.orV, Fx.notV, Fx.andB, Fx.orB, Fx.notB, Fx.iteV, Fx.isi, Fx.tyM, Fx.isT, Fx.dsp, Fx.itf, Fx.itm, Fx.pass, Fx.ite_ap, toN, lenD, neD_int]
          | [a, b], hok =>
            have hf := hok.fst
            have e := law_named_ok S hf.g hf.w
            simp only [fstD] at e
            refine ⟨fun z => ⟨[some (.tup rows), some (.tup [a, b])], ⟨_, rfl⟩, ?_⟩, fun z => ?_⟩
            · have z : nameP a = true := by simpa [p, pairP, fstD] using z
              simp [Fx.bodyD, Fx.ent, Fx.seqS, Fx.ifS, Fx.ret, Fx.set, Fx.drop, Fx.asg, Fx.lft, Fx.bd, Fx.pur, Fx.opt, Fx.tst, Fx.asB, Fx.bin, Fx.getv, Fx.cns, Fx.cal, Fx.un, Fx.andV, Fx.orV, Fx.notV, Fx.andB, Fx.orB, Fx.notB, Fx.iteV, Fx.isi, Fx.tyM, Fx.isT, Fx.dsp, Fx.itf, Fx.itm, Fx.pass, Fx.ite_ap, toN, lenD, neD_int, ix20, e, z]
            · have z : nameP a = false := by simpa [p, pairP, fstD] using z
              simp [Fx.bodyD, Fx.ent, Fx.seqS, Fx.ifS, Fx.ret, Fx.set, Fx.drop, Fx.asg, Fx.lft, Fx.bd, Fx.pur, Fx.opt, Fx.tst, Fx.asB, Fx.bin, Fx.getv, Fx.cns, Fx.cal, Fx.un, Fx.andV, Fx.orV, Fx.notV, Fx.andB, Fx.orB, Fx.notB, Fx.iteV, Fx.isi, Fx.tyM, Fx.isT, Fx.dsp, Fx.itf, Fx.itm, Fx.pass, Fx.ite_ap, toN, lenD, neD_int, ix20, e, z]
          | a :: b :: c :: r, _ =>
            have e : ((r.length : Int) + 1 + 1 + 1 == 2) = false := by rw [beq_eq_false_iff_ne]; omega
            refine ⟨fun z => ?_, fun z => ?_⟩
            · simp [p, pairP] at z; omega
            · simp [Fx.bodyD, Fx.ent, Fx.seqS, Fx.ifS, Fx.ret, Fx.set, Fx.drop, Fx.asg, Fx.lft, Fx.bd, Fx.pur, Fx.opt, Fx.tst, Fx.asB, Fx.bin, Fx.getv, Fx.cns, Fx.cal, Fx.un, Fx.andV, Fx.orV, Fx.notV, Fx.andB, Fx.orB, Fx.notB, Fx.iteV, Fx.isi, Fx.tyM, Fx.isT, Fx.dsp, Fx.itf, Fx.itm, Fx.pass, Fx.ite_ap, toN, lenD, neD_int, e]
        all_goals (refine ⟨fun z => ?_, fun z => ?_⟩ <;> first | (simp [p, pairP] at z; done) | simp [Fx.bodyD, Fx.ent, Fx.seqS, Fx.ifS, Fx.ret, Fx.set, Fx.drop, Fx.asg, Fx.lft, Fx.bd, Fx.pur, Fx.opt, Fx.tst, Fx.asB, Fx.bin, Fx.getv, Fx.cns, Fx.cal, Fx.un, Fx.andV, Fx.orV, Fx.notV, Fx.andB, Fx.orB, Fx.notB, Fx.iteV, Fx.isi, Fx.tyM, Fx.isT, Fx.dsp, Fx.itf, Fx.itm, Fx.pass, Fx.ite_ap, toN]))
    by_cases hp : rows.all p = true
    case neg =>
      have hp : rows.all p = false := by simpa using hp
      have e := L2 hp
      have hr : namedP (.tup rows) = false := by
        simp only [namedP, isTup, rowsOf, Bool.true_and]
        have : (rows.all pairP && rows.all fun r => nameP (fstD r)) = rows.all p := by
          rw [Bool.eq_iff_iff]; simp [p, List.all_eq_true]; exact ⟨fun q r hr => ⟨q.1 r hr, q.2 r hr⟩, fun q => ⟨fun r hr => (q r hr).1, fun r hr => (q r hr).2⟩⟩
        rw [this, hp]; rfl
      simp [Fx.bodyD, Fx.ent, Fx.seqS, Fx.ifS, Fx.ret, Fx.set, Fx.drop, Fx.asg, Fx.lft, Fx.bd, Fx.pur, Fx.opt, Fx.tst, Fx.asB, Fx.bin, Fx.getv, Fx.cns, Fx.cal, Fx.un, Fx.andV, Fx.orV, Fx.notV, Fx.andB, Fx.orB, Fx.notB, Fx.iteV, Fx.isi, Fx.tyM, Fx.isT, Fx.dsp, Fx.itf, Fx.itm, Fx.pass, Fx.ite_ap, g_law_pairs_of, b_law_pairs_of, forS, e, hr]
    obtain ⟨_, ⟨z, rfl⟩, e⟩ := L1 hp
    have hpp : ∀ r ∈ rows, pairP r = true ∧ nameP (fstD r) = true := fun r hr => by simpa [p] using List.all_eq_true.mp hp r hr
    have hp1 : rows.all pairP = true := List.all_eq_true.mpr fun r hr => (hpp r hr).1
    have hn : rows.all (fun r => nameP (fstD r)) = true := List.all_eq_true.mpr fun r hr => (hpp r hr).2
    have e2 : cmp [1] mkL (itf (getv 0)) (toN 1) (fun _ => pur true) (bin ixD (getv 1) (fun _ => pur (.int 0))) [some (.tup rows), z] S = .ok (.lst (rows.map fstD)) S := by
      rw [cmp_ok rows (fun _ => true) fstD rfl ?_ hl2, List.filter_eq_self.mpr (by simp)]
      intro r hr
      obtain ⟨a, b, rfl⟩ := pairP_inv (hpp r hr).1
      refine ⟨_, rfl, rfl, fun _ => ?_⟩
      simp [Fx.bodyD, Fx.ent, Fx.seqS, Fx.ifS, Fx.ret, Fx.set, Fx.drop, Fx.asg, Fx.lft, Fx.bd, Fx.pur, Fx.opt, Fx.tst, Fx.asB, Fx.bin, Fx.getv, Fx.cns, Fx.cal, Fx.un, Fx.andV, Fx.orV, Fx.notV, Fx.andB, Fx.orB, Fx.notB, Fx.iteV, Fx.isi, Fx.tyM, Fx.isT, Fx.dsp, Fx.itf, Fx.itm, Fx.pass, Fx.ite_ap, toN, wipeE, fstD, ix20]
    have e4 : g_law_rises [.lst (rows.map fstD)] S = .ok (.bl (ascS (rows.map fun r => sD (fstD r)))) S := by
      rw [names_str hn]; exact rises_ok _ S (by simpa using hl)
    simp [Fx.bodyD, Fx.ent, Fx.seqS, Fx.ifS, Fx.ret, Fx.set, Fx.drop, Fx.asg, Fx.lft, Fx.bd, Fx.pur, Fx.opt, Fx.tst, Fx.asB, Fx.bin, Fx.getv, Fx.cns, Fx.cal, Fx.un, Fx.andV, Fx.orV, Fx.notV, Fx.andB, Fx.orB, Fx.notB, Fx.iteV, Fx.isi, Fx.tyM, Fx.isT, Fx.dsp, Fx.itf, Fx.itm, Fx.pass, Fx.ite_ap, g_law_pairs_of, b_law_pairs_of, forS, e, e2, e4, namedP, isTup, rowsOf, hp1, hn]
  all_goals (have hg := h.g; first | (simp [gd] at hg; done) | simp [Fx.bodyD, Fx.ent, Fx.seqS, Fx.ifS, Fx.ret, Fx.set, Fx.drop, Fx.asg, Fx.lft, Fx.bd, Fx.pur, Fx.opt, Fx.tst, Fx.asB, Fx.bin, Fx.getv, Fx.cns, Fx.cal, Fx.un, Fx.andV, Fx.orV, Fx.notV, Fx.andB, Fx.orB, Fx.notB, Fx.iteV, Fx.isi, Fx.tyM, Fx.isT, Fx.dsp, Fx.itf, Fx.itm, Fx.pass, Fx.ite_ap, g_law_pairs_of, b_law_pairs_of, namedP, isTup])
end K03

end
/-! ## K03e -/
section
namespace K03
variable [Fx.Tabl]
open PySem Fx
open L2 (atI ixN)
def formP (d : D) : Bool := namedP d && (rowsOf d).all (fun r => kindP (sndD r))
theorem namedP_inv {d : D} (h : namedP d = true) : ∃ rows, d = .tup rows ∧ (∀ r ∈ rows, ∃ x b, r = .tup [.str x, b]) := by
  cases d <;> simp [namedP, isTup] at h
  rename_i rows
  refine ⟨rows, rfl, fun r hr => ?_⟩
  obtain ⟨⟨h1, h2⟩, _⟩ := h
  obtain ⟨a, b, rfl⟩ := pairP_inv (h1 r hr)
  have := nameP_str (h2 _ hr)
  simp only [fstD] at this
  exact ⟨sD a, b, by rw [← this]⟩
theorem isform_ok {n : Nat} {d : D} (S : Store) (h : Ok n d) : g_is_form [d] S = .ok (.bl (formP d)) S := by
  have e1 := are_named_ok S h
  cases hn : namedP d with
  | false => simp [Fx.bodyD, Fx.ent, Fx.seqS, Fx.ifS, Fx.ret, Fx.set, Fx.drop, Fx.asg, Fx.lft, Fx.bd, Fx.pur, Fx.opt, Fx.tst, Fx.asB, Fx.bin, Fx.getv, Fx.cns, Fx.cal, Fx.un, Fx.andV, Fx.orV, Fx.notV, Fx.andB, Fx.orB, Fx.notB, Fx.iteV, Fx.isi, Fx.tyM, Fx.isT, Fx.dsp, Fx.itf, Fx.itm, Fx.pass, Fx.ite_ap, g_is_form, b_is_form, e1, hn, formP]
  | true =>
    obtain ⟨rows, rfl, hr⟩ := namedP_inv hn
    have hl2 : rows.length ≤ sizeLine := Nat.le_trans h.len big_le
    have e2 : cmp [1, 2] mkL (itf (getv 0)) (toTup (toCons (toN 1) (toCons (toN 2) toNil))) (fun _ => pur true) (cal (cns (getv 2) (fun _ => pur [])) g_is_kind) [some (.tup rows), none, none] S = .ok (.lst (rows.map fun r => .bl (kindP (sndD r)))) S := by
      rw [cmp_ok rows (fun _ => true) (fun r => .bl (kindP (sndD r))) rfl ?_ hl2, List.filter_eq_self.mpr (by simp)]
      intro r hr'
      obtain ⟨x, b, rfl⟩ := hr r hr'
      refine ⟨_, rfl, rfl, fun _ => ?_⟩
      have hf := (h.row hr').snd
      have := is_kind_ok S hf.g hf.w
      simp only [sndD] at this
      simp [Fx.bodyD, Fx.ent, Fx.seqS, Fx.ifS, Fx.ret, Fx.set, Fx.drop, Fx.asg, Fx.lft, Fx.bd, Fx.pur, Fx.opt, Fx.tst, Fx.asB, Fx.bin, Fx.getv, Fx.cns, Fx.cal, Fx.un, Fx.andV, Fx.orV, Fx.notV, Fx.andB, Fx.orB, Fx.notB, Fx.iteV, Fx.isi, Fx.tyM, Fx.isT, Fx.dsp, Fx.itf, Fx.itm, Fx.pass, Fx.ite_ap, toN, wipeE, sndD, this]
    simp [Fx.bodyD, Fx.ent, Fx.seqS, Fx.ifS, Fx.ret, Fx.set, Fx.drop, Fx.asg, Fx.lft, Fx.bd, Fx.pur, Fx.opt, Fx.tst, Fx.asB, Fx.bin, Fx.getv, Fx.cns, Fx.cal, Fx.un, Fx.andV, Fx.orV, Fx.notV, Fx.andB, Fx.orB, Fx.notB, Fx.iteV, Fx.isi, Fx.tyM, Fx.isT, Fx.dsp, Fx.itf, Fx.itm, Fx.pass, Fx.ite_ap, g_is_form, b_is_form, e1, e2, hn, formP, allD_map, rowsOf]
theorem law_formed_ok {n : Nat} {d : D} (S : Store) (h : Ok n d) : g_law_formed [d] S = .ok (.bl (formP d)) S := by
  have e1 := law_pairs_ok S h
  cases hn : namedP d with
  | false => simp [Fx.bodyD, Fx.ent, Fx.seqS, Fx.ifS, Fx.ret, Fx.set, Fx.drop, Fx.asg, Fx.lft, Fx.bd, Fx.pur, Fx.opt, Fx.tst, Fx.asB, Fx.bin, Fx.getv, Fx.cns, Fx.cal, Fx.un, Fx.andV, Fx.orV, Fx.notV, Fx.andB, Fx.orB, Fx.notB, Fx.iteV, Fx.isi, Fx.tyM, Fx.isT, Fx.dsp, Fx.itf, Fx.itm, Fx.pass, Fx.ite_ap, g_law_formed, b_law_formed, e1, hn, formP]
  | true =>
    obtain ⟨rows, rfl, hr⟩ := namedP_inv hn
    have hl2 : rows.length ≤ sizeLine := Nat.le_trans h.len big_le
    have e2 : cmp [1] mkL (itf (getv 0)) (toN 1) (notB (tst (cal (cns (bin ixD (getv 1) (fun _ => pur (.int 1))) (fun _ => pur [])) g_law_kinded))) (getv 1) [some (.tup rows), none] S = .ok (.lst (rows.filter fun r => !kindP (sndD r))) S := by
      rw [cmp_ok rows (fun r => !kindP (sndD r)) id rfl ?_ hl2, List.map_id]
      intro r hr'
      obtain ⟨x, b, rfl⟩ := hr r hr'
      have hf := (h.row hr').snd
      have := law_kinded_ok S hf.g hf.w
      simp only [sndD] at this
      refine ⟨_, rfl, ?_, fun _ => ?_⟩
      · simp [Fx.bodyD, Fx.ent, Fx.seqS, Fx.ifS, Fx.ret, Fx.set, Fx.drop, Fx.asg, Fx.lft, Fx.bd, Fx.pur, Fx.opt, Fx.tst, Fx.asB, Fx.bin, Fx.getv, Fx.cns, Fx.cal, Fx.un, Fx.andV, Fx.orV, Fx.notV, Fx.andB, Fx.orB, Fx.notB, Fx.iteV, Fx.isi, Fx.tyM, Fx.isT, Fx.dsp, Fx.itf, Fx.itm, Fx.pass, Fx.ite_ap, toN, wipeE, sndD, this, ix21]
      · simp [Fx.bodyD, Fx.ent, Fx.seqS, Fx.ifS, Fx.ret, Fx.set, Fx.drop, Fx.asg, Fx.lft, Fx.bd, Fx.pur, Fx.opt, Fx.tst, Fx.asB, Fx.bin, Fx.getv, Fx.cns, Fx.cal, Fx.un, Fx.andV, Fx.orV, Fx.notV, Fx.andB, Fx.orB, Fx.notB, Fx.iteV, Fx.isi, Fx.tyM, Fx.isT, Fx.dsp, Fx.itf, Fx.itm, Fx.pass, Fx.ite_ap, toN, wipeE]
    have e3 : eqD (.lst (rows.filter fun r => !kindP (sndD r))) (.lst []) S = .ok (.bl (rows.all fun r => kindP (sndD r))) S := by
      rw [eqD_eq (n := n) (m := 0)]
      · rw [eqP_nilL, filt_all (fun r => kindP (sndD r))]
      · rw [gd, gds_mem]
        exact fun r hr' => (h.row (List.mem_filter.mp hr').1).g
      · rfl
      · refine Nat.le_trans (dep_lst (k := 60) fun r hr' => (h.row (List.mem_filter.mp hr').1).p) (by decide)
      · show 1 ≤ 64; decide
    have e4 := (bin_ok (g := eqD) e2 (nilL _ _)).trans e3
    rw [hn] at e1
    have e5 := body_rt (n := 2) (b := b_law_formed) (ds := [.tup rows]) (m := 1) rfl (ret_ok ((andV_t ((cal1_ok (getv_ok rfl)).trans e1)).trans e4))
    rw [formP, hn]
    exact e5
def isStr : D → Bool
  | .str _ => true
  | _ => false
def linkP (ns : List Str) (e : D) : Bool := !(isStr (sndD e)) || decide (sD (sndD e) ∈ ns)
def linksP (ns : List Str) (form : D) : Bool := (rowsOf form).all (linkP ns)
def namesOf (d : D) : List Str := (rowsOf d).map fun r => sD (fstD r)
def schemaP (d : D) : Bool := namedP d && !(rowsOf d).isEmpty && (rowsOf d).all (fun r => formP (sndD r)) && (rowsOf d).all (fun r => linksP (namesOf d) (sndD r))
theorem strsOf_map : ∀ xs : List Str, strsOf (xs.map D.str) = some xs
  | [] => rfl
  | x :: xs => by simp [strsOf, strOf, strsOf_map xs]
theorem in_names (x : Str) (ns : List Str) (S : Store) : inD false (.str x) (.lst (ns.map D.str)) S = .ok (.bl (decide (x ∈ ns))) S := by
  simp [inD, seqLT, seqL, seqM, bd, pur, opt, strsOf_map]
theorem notin_names (x : Str) (ns : List Str) (S : Store) : inD true (.str x) (.lst (ns.map D.str)) S = .ok (.bl (!decide (x ∈ ns))) S := by
  simp [inD, seqLT, seqL, seqM, bd, pur, opt, strsOf_map]
theorem links_ok {n : Nat} {d : D} (ns : List Str) (S : Store) (h : Ok n d) (hf : formP d = true) : g_links_lead [d, .lst (ns.map D.str)] S = .ok (.bl (linksP ns d)) S := by
  have hn : namedP d = true := by simp [formP] at hf; exact hf.1
  obtain ⟨rows, rfl, hr⟩ := namedP_inv hn
  have hl2 : rows.length ≤ sizeLine := Nat.le_trans h.len big_le
  have e2 : cmp [2, 3] mkL (itf (getv 0)) (toTup (toCons (toN 2) (toCons (toN 3) toNil))) (tst (isi "str" (getv 3))) (bin (inD false) (getv 3) (getv 1)) [some (.tup rows), some (.lst (ns.map D.str)), none, none] S
      = .ok (.lst ((rows.filter fun r => isStr (sndD r)).map fun r => .bl (decide (sD (sndD r) ∈ ns)))) S := by
    rw [cmp_ok rows (fun r => isStr (sndD r)) (fun r => .bl (decide (sD (sndD r) ∈ ns))) rfl ?_ hl2]
    intro r hr'
    obtain ⟨x, b, rfl⟩ := hr r hr'
    have hg := (h.row hr').snd.g
    simp only [sndD] at hg
    refine ⟨_, rfl, ?_, fun z => ?_⟩
    · cases b <;> first
        | (simp [gd] at hg; done)
        | simp [Fx.bodyD, Fx.ent, Fx.seqS, Fx.ifS, Fx.ret, Fx.set, Fx.drop, Fx.asg, Fx.lft, Fx.bd, Fx.pur, Fx.opt, Fx.tst, Fx.asB, Fx.bin, Fx.getv, Fx.cns, Fx.cal, Fx.un, Fx.andV, Fx.orV, Fx.notV, Fx.andB, Fx.orB, Fx.notB, Fx.iteV, Fx.isi, Fx.tyM, Fx.isT, Fx.dsp, Fx.itf, Fx.itm, Fx.pass, Fx.ite_ap, toN, wipeE, sndD, isStr]
    · cases b <;> simp [sndD, isStr] at z
      rename_i y
      have := in_names y ns S
      simp [Fx.bodyD, Fx.ent, Fx.seqS, Fx.ifS, Fx.ret, Fx.set, Fx.drop, Fx.asg, Fx.lft, Fx.bd, Fx.pur, Fx.opt, Fx.tst, Fx.asB, Fx.bin, Fx.getv, Fx.cns, Fx.cal, Fx.un, Fx.andV, Fx.orV, Fx.notV, Fx.andB, Fx.orB, Fx.notB, Fx.iteV, Fx.isi, Fx.tyM, Fx.isT, Fx.dsp, Fx.itf, Fx.itm, Fx.pass, Fx.ite_ap, toN, wipeE, sndD, sD, this]
      rfl
  have e3 : ((rows.filter fun r => isStr (sndD r)).all fun r => decide (sD (sndD r) ∈ ns)) = linksP ns (.tup rows) := by
    rw [Bool.eq_iff_iff]
    simp only [linksP, rowsOf, List.all_eq_true, List.mem_filter, linkP, Bool.or_eq_true, Bool.not_eq_true']
    refine ⟨fun q r hr => ?_, fun q r hr => ?_⟩
    · cases z : isStr (sndD r) with
      | false => exact .inl rfl
      | true => exact .inr (q r ⟨hr, z⟩)
    · rcases q r hr.1 with z | z
      · rw [hr.2] at z; cases z
      · exact z
  have e4 := allD_map (fun r => decide (sD (sndD r) ∈ ns)) (rows.filter fun r => isStr (sndD r)) S
  rw [e3] at e4
  exact body_rt (n := 4) (b := b_links_lead) (ds := [.tup rows, .lst (ns.map D.str)]) (m := 2) rfl (ret_ok ((cal1_ok e2).trans e4))
theorem is_schema_ok {n : Nat} {d : D} (S : Store) (h : Ok n d) : g_is_schema [d] S = .ok (.bl (schemaP d)) S := by
  have e1 := are_named_ok S h
  cases hn : namedP d with
  | false => simp [Fx.bodyD, Fx.ent, Fx.seqS, Fx.ifS, Fx.ret, Fx.set, Fx.drop, Fx.asg, Fx.lft, Fx.bd, Fx.pur, Fx.opt, Fx.tst, Fx.asB, Fx.bin, Fx.getv, Fx.cns, Fx.cal, Fx.un, Fx.andV, Fx.orV, Fx.notV, Fx.andB, Fx.orB, Fx.notB, Fx.iteV, Fx.isi, Fx.tyM, Fx.isT, Fx.dsp, Fx.itf, Fx.itm, Fx.pass, Fx.ite_ap, g_is_schema, b_is_schema, e1, hn, schemaP]
  | true =>
    obtain ⟨rows, rfl, hr⟩ := namedP_inv hn
    have hl2 : rows.length ≤ sizeLine := Nat.le_trans h.len big_le
    by_cases h0 : rows = []
    · subst h0
      simp [Fx.bodyD, Fx.ent, Fx.seqS, Fx.ifS, Fx.ret, Fx.set, Fx.drop, Fx.asg, Fx.lft, Fx.bd, Fx.pur, Fx.opt, Fx.tst, Fx.asB, Fx.bin, Fx.getv, Fx.cns, Fx.cal, Fx.un, Fx.andV, Fx.orV, Fx.notV, Fx.andB, Fx.orB, Fx.notB, Fx.iteV, Fx.isi, Fx.tyM, Fx.isT, Fx.dsp, Fx.itf, Fx.itm, Fx.pass, Fx.ite_ap, g_is_schema, b_is_schema, e1, hn, schemaP, lenD, eqInt, rowsOf, eqD_int]
    have h1 : ((rows.length : Int) == 0) = false := by
      rw [beq_eq_false_iff_ne]; have := List.length_pos_iff.mpr h0; omega
    have e2 : cmp [1, 2] mkL (itf (getv 0)) (toTup (toCons (toN 1) (toCons (toN 2) toNil))) (fun _ => pur true) (cal (cns (getv 2) (fun _ => pur [])) g_is_form) [some (.tup rows), none, none, none, none] S = .ok (.lst (rows.map fun r => .bl (formP (sndD r)))) S := by
      rw [cmp_ok rows (fun _ => true) (fun r => .bl (formP (sndD r))) rfl ?_ hl2, List.filter_eq_self.mpr (by simp)]
      intro r hr'
      obtain ⟨x, b, rfl⟩ := hr r hr'
      refine ⟨_, rfl, rfl, fun _ => ?_⟩
      have := isform_ok S (h.row hr').snd
      simp only [sndD] at this
      simp [Fx.bodyD, Fx.ent, Fx.seqS, Fx.ifS, Fx.ret, Fx.set, Fx.drop, Fx.asg, Fx.lft, Fx.bd, Fx.pur, Fx.opt, Fx.tst, Fx.asB, Fx.bin, Fx.getv, Fx.cns, Fx.cal, Fx.un, Fx.andV, Fx.orV, Fx.notV, Fx.andB, Fx.orB, Fx.notB, Fx.iteV, Fx.isi, Fx.tyM, Fx.isT, Fx.dsp, Fx.itf, Fx.itm, Fx.pass, Fx.ite_ap, toN, wipeE, sndD, this]
    by_cases hf : rows.all (fun r => formP (sndD r)) = true
    case neg =>
      have hf : rows.all (fun r => formP (sndD r)) = false := by simpa using hf
      simp [Fx.bodyD, Fx.ent, Fx.seqS, Fx.ifS, Fx.ret, Fx.set, Fx.drop, Fx.asg, Fx.lft, Fx.bd, Fx.pur, Fx.opt, Fx.tst, Fx.asB, Fx.bin, Fx.getv, Fx.cns, Fx.cal, Fx.un, Fx.andV, Fx.orV, Fx.notV, Fx.andB, Fx.orB, Fx.notB, Fx.iteV, Fx.isi, Fx.tyM, Fx.isT, Fx.dsp, Fx.itf, Fx.itm, Fx.pass, Fx.ite_ap, g_is_schema, b_is_schema, e1, hn, schemaP, lenD, eqInt, eqD_int, h1, e2, allD_map, hf, rowsOf]
    have e3 : cmp [4, 1] mkL (itf (getv 0)) (toTup (toCons (toN 4) (toCons (toN 1) toNil))) (fun _ => pur true) (getv 4) [some (.tup rows), none, none, none, none] S = .ok (.lst ((namesOf (.tup rows)).map D.str)) S := by
      rw [cmp_ok rows (fun _ => true) fstD rfl ?_ hl2, List.filter_eq_self.mpr (by simp)]
      · simp only [namesOf, rowsOf, List.map_map]
        congr 2
        refine List.map_congr_left fun r hr' => ?_
        obtain ⟨x, b, rfl⟩ := hr r hr'
        rfl
      · intro r hr'
        obtain ⟨x, b, rfl⟩ := hr r hr'
        refine ⟨_, rfl, rfl, fun _ => ?_⟩
        simp [Fx.bodyD, Fx.ent, Fx.seqS, Fx.ifS, Fx.ret, Fx.set, Fx.drop, Fx.asg, Fx.lft, Fx.bd, Fx.pur, Fx.opt, Fx.tst, Fx.asB, Fx.bin, Fx.getv, Fx.cns, Fx.cal, Fx.un, Fx.andV, Fx.orV, Fx.notV, Fx.andB, Fx.orB, Fx.notB, Fx.iteV, Fx.isi, Fx.tyM, Fx.isT, Fx.dsp, Fx.itf, Fx.itm, Fx.pass, Fx.ite_ap, toN, wipeE, fstD]
    have e4 : cmp [1, 2] mkL (itf (getv 0)) (toTup (toCons (toN 1) (toCons (toN 2) toNil))) (fun _ => pur true) (cal (cns (getv 2) (cns (getv 3) (fun _ => pur []))) g_links_lead) [some (.tup rows), none, none, some (.lst ((namesOf (.tup rows)).map D.str)), none] S
        = .ok (.lst (rows.map fun r => .bl (linksP (namesOf (.tup rows)) (sndD r)))) S := by
      rw [cmp_ok rows (fun _ => true) (fun r => .bl (linksP (namesOf (.tup rows)) (sndD r))) rfl ?_ hl2, List.filter_eq_self.mpr (by simp)]
      intro r hr'
      have hff := List.all_eq_true.mp hf r hr'
      obtain ⟨x, b, rfl⟩ := hr r hr'
      refine ⟨_, rfl, rfl, fun _ => ?_⟩
      have := links_ok (namesOf (.tup rows)) S (h.row hr').snd hff
      simp only [sndD] at this
      simp [Fx.bodyD, Fx.ent, Fx.seqS, Fx.ifS, Fx.ret, Fx.set, Fx.drop, Fx.asg, Fx.lft, Fx.bd, Fx.pur, Fx.opt, Fx.tst, Fx.asB, Fx.bin, Fx.getv, Fx.cns, Fx.cal, Fx.un, Fx.andV, Fx.orV, Fx.notV, Fx.andB, Fx.orB, Fx.notB, Fx.iteV, Fx.isi, Fx.tyM, Fx.isT, Fx.dsp, Fx.itf, Fx.itm, Fx.pass, Fx.ite_ap, toN, wipeE, sndD, this]
    have h2 : rows.isEmpty = false := by simpa using h0
    simp [Fx.bodyD, Fx.ent, Fx.seqS, Fx.ifS, Fx.ret, Fx.set, Fx.drop, Fx.asg, Fx.lft, Fx.bd, Fx.pur, Fx.opt, Fx.tst, Fx.asB, Fx.bin, Fx.getv, Fx.cns, Fx.cal, Fx.un, Fx.andV, Fx.orV, Fx.notV, Fx.andB, Fx.orB, Fx.notB, Fx.iteV, Fx.isi, Fx.tyM, Fx.isT, Fx.dsp, Fx.itf, Fx.itm, Fx.pass, Fx.ite_ap, g_is_schema, b_is_schema, e1, hn, schemaP, lenD, eqInt, eqD_int, h1, e2, allD_map, hf, rowsOf, e3, e4, h2]
theorem law_schemed_ok {n : Nat} {d : D} (S : Store) (h : Ok n d) : g_law_schemed [d] S = .ok (.bl (schemaP d)) S := by
  have e1 := law_pairs_ok S h
  cases hn : namedP d with
  | false => simp [Fx.bodyD, Fx.ent, Fx.seqS, Fx.ifS, Fx.ret, Fx.set, Fx.drop, Fx.asg, Fx.lft, Fx.bd, Fx.pur, Fx.opt, Fx.tst, Fx.asB, Fx.bin, Fx.getv, Fx.cns, Fx.cal, Fx.un, Fx.andV, Fx.orV, Fx.notV, Fx.andB, Fx.orB, Fx.notB, Fx.iteV, Fx.isi, Fx.tyM, Fx.isT, Fx.dsp, Fx.itf, Fx.itm, Fx.pass, Fx.ite_ap, g_law_schemed, b_law_schemed, e1, hn, schemaP]
  | true =>
    obtain ⟨rows, rfl, hr⟩ := namedP_inv hn
    have hl2 : rows.length ≤ sizeLine := Nat.le_trans h.len big_le
    have e0 : eqD (.tup rows) (.tup []) S = .ok (.bl rows.isEmpty) S := by
      rw [eqD_eq (n := n) (m := 0) h.g rfl (Nat.le_trans h.p (by decide)) (by show 1 ≤ 64; decide), eqP_nilT]
    by_cases h0 : rows = []
    · subst h0
      simp [Fx.bodyD, Fx.ent, Fx.seqS, Fx.ifS, Fx.ret, Fx.set, Fx.drop, Fx.asg, Fx.lft, Fx.bd, Fx.pur, Fx.opt, Fx.tst, Fx.asB, Fx.bin, Fx.getv, Fx.cns, Fx.cal, Fx.un, Fx.andV, Fx.orV, Fx.notV, Fx.andB, Fx.orB, Fx.notB, Fx.iteV, Fx.isi, Fx.tyM, Fx.isT, Fx.dsp, Fx.itf, Fx.itm, Fx.pass, Fx.ite_ap, g_law_schemed, b_law_schemed, e1, hn, schemaP, rowsOf, nilT, mkT, e0]
    have h2 : rows.isEmpty = false := by simpa using h0
    rw [h2] at e0
    have e3 : cmp [2] mkL (itf (getv 0)) (toN 2) (fun _ => pur true) (bin ixD (getv 2) (fun _ => pur (.int 0))) [some (.tup rows), none, none, none, none, none, none] S = .ok (.lst ((namesOf (.tup rows)).map D.str)) S := by
      rw [cmp_ok rows (fun _ => true) fstD rfl ?_ hl2, List.filter_eq_self.mpr (by simp)]
      · simp only [namesOf, rowsOf, List.map_map]
        congr 2
        refine List.map_congr_left fun r hr' => ?_
        obtain ⟨x, b, rfl⟩ := hr r hr'
        rfl
      · intro r hr'
        obtain ⟨x, b, rfl⟩ := hr r hr'
        refine ⟨_, rfl, rfl, fun _ => ?_⟩
        simp [Fx.bodyD, Fx.ent, Fx.seqS, Fx.ifS, Fx.ret, Fx.set, Fx.drop, Fx.asg, Fx.lft, Fx.bd, Fx.pur, Fx.opt, Fx.tst, Fx.asB, Fx.bin, Fx.getv, Fx.cns, Fx.cal, Fx.un, Fx.andV, Fx.orV, Fx.notV, Fx.andB, Fx.orB, Fx.notB, Fx.iteV, Fx.isi, Fx.tyM, Fx.isT, Fx.dsp, Fx.itf, Fx.itm, Fx.pass, Fx.ite_ap, toN, wipeE, fstD, ix20]
    let ns := namesOf (.tup rows)
    let p : D → Bool := fun r => formP (sndD r) && linksP ns (sndD r)
    obtain ⟨L1, L2⟩ := loop_all (t := toTup (toCons (toN 3) (toCons (toN 4) toNil))) (b := (seqS (ifS (notB (tst (cal (cns (getv 4) (fun _ => pur [])) g_law_formed))) (ret (fun _ => pur (.bl false))) pass)
        (ifS (tst (bin neD (cmp [5, 6] mkL (itf (getv 4)) (toTup (toCons (toN 5) (toCons (toN 6) toNil))) (andB (tst (isi "str" (getv 6))) (tst (bin (inD true) (getv 6) (getv 1)))) (getv 6)) (dsp mkL (fun _ => pur [])))) (ret (fun _ => pur (.bl false))) pass))) (S := S)
      (fun env => ∃ x y, env = [some (.tup rows), some (.lst (ns.map D.str)), none, x, y, none, none]) p (.bl false) rows [some (.tup rows), some (.lst (ns.map D.str)), none, none, none, none, none] ⟨_, _, rfl⟩ (by
        rintro r hr' env ⟨x, y, rfl⟩
        have hok := (h.row hr').snd
        obtain ⟨a, b, rfl⟩ := hr r hr'
        simp only [sndD] at hok
        have f1 := law_formed_ok S hok
        refine ⟨_, rfl, ?_⟩
        cases hf : formP b with
        | false =>
          refine ⟨fun z => ?_, fun z => ?_⟩
          · simp [p, sndD, hf] at z
          · simp [Fx.bodyD, Fx.ent, Fx.seqS, Fx.ifS, Fx.ret, Fx.set, Fx.drop, Fx.asg, Fx.lft, Fx.bd, Fx.pur, Fx.opt, Fx.tst, Fx.asB, Fx.bin, Fx.getv, Fx.cns, Fx.cal, Fx.un, Fx.andV, Fx.orV, Fx.notV, Fx.andB, Fx.orB, Fx.notB, Fx.iteV, Fx.isi, Fx.tyM, Fx.isT, Fx.dsp, Fx.itf, Fx.itm, Fx.pass, Fx.ite_ap, f1, hf]
        | true =>
          have hnb : namedP b = true := by simp [formP] at hf; exact hf.1
          obtain ⟨es, rfl, he⟩ := namedP_inv hnb
          have hl3 : es.length ≤ sizeLine := Nat.le_trans hok.len big_le
          let env1 : Fx.Env := [some (.tup rows), some (.lst (ns.map D.str)), none, some (.str a), some (.tup es), none, none]
          have f2 : cmp [5, 6] mkL (itf (getv 4)) (toTup (toCons (toN 5) (toCons (toN 6) toNil))) (andB (tst (isi "str" (getv 6))) (tst (bin (inD true) (getv 6) (getv 1)))) (getv 6) env1 S = .ok (.lst ((es.filter fun e => !linkP ns e).map sndD)) S := by
            rw [cmp_ok es (fun e => !linkP ns e) sndD rfl ?_ hl3]
            intro e he'
            obtain ⟨u, v, rfl⟩ := he e he'
            have hg := (hok.row he').snd.g
            simp only [sndD] at hg
            refine ⟨_, rfl, ?_, fun _ => ?_⟩
            · cases v <;> first
                | (simp [gd] at hg; done)
                | skip
              case str y =>
                have := notin_names y ns S
                simp [Fx.bodyD, Fx.ent, Fx.seqS, Fx.ifS, Fx.ret, Fx.set, Fx.drop, Fx.asg, Fx.lft, Fx.bd, Fx.pur, Fx.opt, Fx.tst, Fx.asB, Fx.bin, Fx.getv, Fx.cns, Fx.cal, Fx.un, Fx.andV, Fx.orV, Fx.notV, Fx.andB, Fx.orB, Fx.notB, Fx.iteV, Fx.isi, Fx.tyM, Fx.isT, Fx.dsp, Fx.itf, Fx.itm, Fx.pass, Fx.ite_ap, env1, toN, wipeE, sndD, isStr, linkP, sD, this]
                rfl
              all_goals simp [Fx.bodyD, Fx.ent, Fx.seqS, Fx.ifS, Fx.ret, Fx.set, Fx.drop, Fx.asg, Fx.lft, Fx.bd, Fx.pur, Fx.opt, Fx.tst, Fx.asB, Fx.bin, Fx.getv, Fx.cns, Fx.cal, Fx.un, Fx.andV, Fx.orV, Fx.notV, Fx.andB, Fx.orB, Fx.notB, Fx.iteV, Fx.isi, Fx.tyM, Fx.isT, Fx.dsp, Fx.itf, Fx.itm, Fx.pass, Fx.ite_ap, env1, toN, wipeE, sndD, isStr, linkP]
            · simp [Fx.bodyD, Fx.ent, Fx.seqS, Fx.ifS, Fx.ret, Fx.set, Fx.drop, Fx.asg, Fx.lft, Fx.bd, Fx.pur, Fx.opt, Fx.tst, Fx.asB, Fx.bin, Fx.getv, Fx.cns, Fx.cal, Fx.un, Fx.andV, Fx.orV, Fx.notV, Fx.andB, Fx.orB, Fx.notB, Fx.iteV, Fx.isi, Fx.tyM, Fx.isT, Fx.dsp, Fx.itf, Fx.itm, Fx.pass, Fx.ite_ap, env1, toN, wipeE, sndD]
          have f3 : neD (.lst ((es.filter fun e => !linkP ns e).map sndD)) (.lst []) S = .ok (.bl (!linksP ns (.tup es))) S := by
            rw [neD_eq (n := n) (m := 0)]
            · rw [eqP_nilL, isEmpty_map', filt_all]; rfl
            · rw [gd, gds_mem]
              intro q hq
              obtain ⟨e, he', rfl⟩ := List.mem_map.mp hq
              exact (hok.row (List.mem_filter.mp he').1).snd.g
            · rfl
            · refine Nat.le_trans (dep_lst (k := 60) fun q hq => ?_) (by decide)
              obtain ⟨e, he', rfl⟩ := List.mem_map.mp hq
              exact (hok.row (List.mem_filter.mp he').1).snd.p
            · show 1 ≤ 64; decide
          have f4 := (bin_ok (g := neD) f2 (nilL _ _)).trans f3
          rw [hf] at f1
          cases hk : linksP ns (.tup es) with
          | false =>
            rw [hk] at f4
            refine ⟨fun z => ?_, fun _ => ?_⟩
            · simp [p, sndD, hk] at z
            · exact (seq_nx (env' := env1) (ifS_f (notB_ok (tst_ok ((cal1_ok (getv_ok rfl)).trans f1))))).trans (ifS_t (tst_ok f4))
          | true =>
            rw [hk] at f4
            refine ⟨fun _ => ⟨env1, ⟨_, _, rfl⟩, ?_⟩, fun z => ?_⟩
            · exact (seq_nx (env' := env1) (ifS_f (notB_ok (tst_ok ((cal1_ok (getv_ok rfl)).trans f1))))).trans (ifS_f (tst_ok f4))
            · simp [p, sndD, hf, hk] at z)
    have hall : schemaP (.tup rows) = rows.all p := by
      simp only [schemaP, rowsOf, hn, h2, Bool.true_and, Bool.not_false]
      rw [Bool.eq_iff_iff]; simp [p, List.all_eq_true]; exact ⟨fun q r hr => ⟨q.1 r hr, q.2 r hr⟩, fun q => ⟨fun r hr => (q r hr).1, fun r hr => (q r hr).2⟩⟩
    have hcond : (orB (notB (tst (cal (cns (getv 0) (fun _ => pur [])) g_law_pairs_of))) (tst (bin eqD (getv 0) (dsp mkT (fun _ => pur []))))) [some (.tup rows), none, none, none, none, none, none] S = .ok false S := by
      have := (bin_ok (g := eqD) (f1 := getv 0) (env := [some (.tup rows), none, none, none, none, none, none]) (S := S) (getv_ok rfl) (nilT _ _)).trans e0
      rw [hn] at e1
      have q1 := notB_ok (tst_ok ((cal1_ok (f := getv 0) (env := [some (.tup rows), none, none, none, none, none, none]) (getv_ok rfl)).trans e1))
      have q2 := tst_ok this
      simp only [orB, bd, q1]
      exact q2
    refine body_rt (S' := S) rfl ?_
    refine (seq_nx (ifS_f hcond)).trans ?_
    refine (seq_nx (set_ok e3)).trans ?_
    rw [hall]
    cases hp : rows.all p with
    | false => exact seq_rt ((for_ok rfl).trans (L2 hp))
    | true =>
      obtain ⟨env', _, he'⟩ := L1 hp
      exact (seq_nx ((for_ok rfl).trans he')).trans rfl
end K03

end
/-! ## K03f -/
section
namespace K03
variable [Fx.Tabl]
open PySem Fx
open L2 (atI ixN Key)
theorem n12 : ¬ ((.inr "cells" : Key) = .inr "at") := by decide +kernel
theorem n13 : ¬ ((.inr "cells" : Key) = .inr "left") := by decide +kernel
theorem n14 : ¬ ((.inr "cells" : Key) = .inr "count") := by decide +kernel
theorem n23 : ¬ ((.inr "at" : Key) = .inr "left") := by decide +kernel
theorem n24 : ¬ ((.inr "at" : Key) = .inr "count") := by decide +kernel
theorem n34 : ¬ ((.inr "left" : Key) = .inr "count") := by decide +kernel
theorem n21 : ¬ ((.inr "at" : Key) = .inr "cells") := by decide +kernel
theorem n31 : ¬ ((.inr "left" : Key) = .inr "cells") := by decide +kernel
theorem n41 : ¬ ((.inr "count" : Key) = .inr "cells") := by decide +kernel
theorem n32 : ¬ ((.inr "left" : Key) = .inr "at") := by decide +kernel
theorem n42 : ¬ ((.inr "count" : Key) = .inr "at") := by decide +kernel
theorem n43 : ¬ ((.inr "count" : Key) = .inr "left") := by decide +kernel
def kvs (cells a l c : D) : List (Key × D) := [(.inr "cells", cells), (.inr "at", a), (.inr "left", l), (.inr "count", c)]
theorem v1 (x a l c : D) : valD (kvs x a l c) (.inr "cells") = some x := by simp [valD, kvs]
theorem v2 (x a l c : D) : valD (kvs x a l c) (.inr "at") = some a := by simp only [valD, kvs, List.find?_cons, decide_eq_false n12, decide_true, Option.map_some]
theorem v3 (x a l c : D) : valD (kvs x a l c) (.inr "left") = some l := by simp only [valD, kvs, List.find?_cons, decide_eq_false n13, decide_eq_false n23, decide_true, Option.map_some]
theorem v4 (x a l c : D) : valD (kvs x a l c) (.inr "count") = some c := by simp only [valD, kvs, List.find?_cons, decide_eq_false n14, decide_eq_false n24, decide_eq_false n34, decide_true, Option.map_some]
theorem p2 (x a l c d : D) : putD (kvs x a l c) (.inr "at") d = kvs x d l c := by
  simp only [putD, kvs, List.any_cons, List.map_cons, List.map_nil, if_neg n12, if_neg n32, if_neg n42, if_true, decide_true, Bool.or_true, Bool.true_or]
theorem p3 (x a l c d : D) : putD (kvs x a l c) (.inr "left") d = kvs x a d c := by
  simp only [putD, kvs, List.any_cons, List.map_cons, List.map_nil, if_neg n13, if_neg n23, if_neg n43, if_true, decide_true, Bool.or_true, Bool.true_or]
theorem p4 (x a l c d : D) : putD (kvs x a l c) (.inr "count") d = kvs x a l d := by
  simp only [putD, kvs, List.any_cons, List.map_cons, List.map_nil, if_neg n14, if_neg n24, if_neg n34, if_true, decide_true, Bool.or_true, Bool.true_or]
section
variable {x a l c : D} {R : Store} {env : Fx.Env} (h0 : env[0]? = some (some (.obj 0)))
include h0
abbrev St (x a l c : D) (R : Store) : Store := some (.dct (kvs x a l c)) :: R
theorem get_ok {k : Str} {d : D} (hv : valD (kvs x a l c) (.inr k) = some d) : bin dgetD (getv 0) (fun _ => pur (.str k)) env (St x a l c R) = .ok d (St x a l c R) := by
  rw [bin_ok (getv_ok h0) rfl]
  simp only [dgetD, objK, bd, List.getElem?_cons_zero, keyOf, opt, hv, pur]
theorem put_ok {k : Str} {f : Fx.Env → M D} {d : D} {x' a' l' c' : D} (hp : putD (kvs x a l c) (.inr k) d = kvs x' a' l' c') (hf : f env (St x a l c R) = .ok d (St x a l c R)) :
    dput (getv 0) (fun _ => pur (.str k)) f env (St x a l c R) = .ok (.nx env) (St x' a' l' c' R) := by
  have e1 : getv 0 env (St x a l c R) = .ok (.obj 0) (St x a l c R) := getv_ok h0
  simp only [dput, lft, hf, e1, pur, objK, List.getElem?_cons_zero, keyOf, opt, hp, if_pos (show (kvs x a l c).length < sizeLine from by show 4 < 16777216; decide), List.set_cons_zero]
end
/-- what a feed is -/
def Fd (S : Store) (R : Store) : Prop := ∃ (cells : List Int) (a l c : Nat), cells.length ≤ 63 ∧ S = St (.lst (cells.map .int)) (.int a) (.int l) (.int c) R
theorem ne_cells (cells : List Int) (S : Store) : neD (.lst (cells.map .int)) (.lst []) S = .ok (.bl (!cells.isEmpty)) S := by
  obtain ⟨n, hn⟩ : ∃ n, gds n (cells.map D.int) = true := by
    induction cells with
    | nil => exact ⟨0, rfl⟩
    | cons c cs ih =>
      obtain ⟨n, hn⟩ := ih
      refine ⟨max c.natAbs n, ?_⟩
      simp only [List.map_cons, gds, gd, Bool.and_eq_true, decide_eq_true_eq]
      exact ⟨Nat.le_max_left _ _, gds_mono (Nat.le_max_right _ _) _ hn⟩
  rw [neD_eq (n := n) (m := 0)]
  · rw [eqP_nilL, isEmpty_map']
  · simpa [gd] using hn
  · rfl
  · refine Nat.le_trans (dep_lst (k := 0) fun d hd => ?_) (by decide)
    obtain ⟨i, hi, rfl⟩ := List.mem_map.mp hd
    exact Nat.le_refl _
  · show 1 ≤ 64; decide
theorem toNat_fmod {i : Int} {m : Nat} (h : 0 < m) : ∃ r : Nat, r < m ∧ i.fmod m = r := by
  have h1 := Int.fmod_nonneg_of_pos i (show (0 : Int) < m by omega)
  have h2 := Int.fmod_lt_of_pos i (show (0 : Int) < m by omega)
  exact ⟨(i.fmod m).toNat, by omega, by omega⟩
theorem mod_ok {i j : Int} {S : Store} (h : j ≠ 0) : modD (.int i) (.int j) S = .ok (.int (i.fmod j)) S := by simp only [modD, if_pos h, pur]
theorem div_ok {i j : Int} {S : Store} (h : j ≠ 0) (h2 : j.natAbs < 1073741824) : fdivD (.int i) (.int j) S = .ok (.int (i.fdiv j)) S := by simp only [fdivD, if_pos (And.intro h h2), pur]
theorem mul_ok {i j : Int} {S : Store} (h : (-(2 ^ 64) < i ∧ i < 2 ^ 64) ∨ (-(2 ^ 64) < j ∧ j < 2 ^ 64)) : mulD (.int i) (.int j) S = .ok (.int (i * j)) S := by simp only [mulD, if_pos h, pur]
theorem int_ok {i : Int} {S : Store} : intD [.int i] S = .ok (.int i) S := rfl
theorem addi_ok {mk : List D → M D} {i j : Int} {S : Store} : addD mk (.int i) (.int j) S = .ok (.int (i + j)) S := rfl
theorem b64 {i : Nat} (h : i < 2147483648) : -(2 ^ 64) < (i : Int) ∧ (i : Int) < 2 ^ 64 := by constructor <;> omega
theorem k_ok {d : D} {env : Fx.Env} {S : Store} : (fun _ => pur d : Fx.Env → M D) env S = .ok d S := rfl
theorem bink {g : D → D → M D} {f1 : Fx.Env → M D} {env : Fx.Env} {S : Store} {a d : D} (h1 : f1 env S = .ok a S) : bin g f1 (fun _ => pur d) env S = g a d S := bin_ok h1 rfl
theorem kbin {g : D → D → M D} {f1 : Fx.Env → M D} {env : Fx.Env} {S : Store} {a d : D} (h1 : f1 env S = .ok a S) : bin g (fun _ => pur d) f1 env S = g d a S := bin_ok (f1 := fun _ => pur d) rfl h1
theorem kbink {g : D → D → M D} {env : Fx.Env} {S : Store} {a d : D} : bin g (fun _ => pur a) (fun _ => pur d) env S = g a d S := bin_ok (f1 := fun _ => pur a) (f2 := fun _ => pur d) rfl rfl
theorem pow18 {S : Store} : powD (.int 10) (.int 18) S = .ok (.int 1000000000000000000) S := by
  simp only [powD]
  rw [if_pos (by decide)]
  rfl
theorem ite_t {p : Fx.Env → M Bool} {f g : Fx.Env → M D} {env : Fx.Env} {S S' : Store} (h : p env S = .ok true S') : iteV p f g env S = f env S' := by simp only [iteV, bd, h, if_true]
theorem ite_f {p : Fx.Env → M Bool} {f g : Fx.Env → M D} {env : Fx.Env} {S S' : Store} (h : p env S = .ok false S') : iteV p f g env S = g env S' := by simp [iteV, bd, h]
theorem and_tt {f g : Fx.Env → M Bool} {env : Fx.Env} {S S' : Store} (h : f env S = .ok true S') : andB f g env S = g env S' := by simp only [andB, bd, h, if_true]
theorem and_ff {f g : Fx.Env → M Bool} {env : Fx.Env} {S S' : Store} (h : f env S = .ok false S') : andB f g env S = .ok false S' := by simp [andB, bd, h, pur]
theorem len_lst {ds : List D} {S : Store} : lenD [.lst ds] S = .ok (.int ds.length) S := rfl
theorem draw_ok {S R : Store} {m : Nat} (hm : 0 < m) (hb : m < 1000000) (hf : Fd S R) : ∃ (r : Nat) (S' : Store), r < m ∧ Fd S' R ∧ g_law_draw [.obj 0, .int m] S = .ok (.int r) S' := by
  obtain ⟨cells, a, l, c, hc, rfl⟩ := hf
  have hm0 : (m : Int) ≠ 0 := by omega
  have hmb : (m : Int).natAbs < 1073741824 := by omega
  let X := D.lst (cells.map .int)
  let e0 : Fx.Env := [some (.obj 0), some (.int m), none, none, none, none]
  have h0 : e0[0]? = some (some (.obj 0)) := rfl
  -- count
  have s1 := put_ok (R := R) h0 (p4 X (.int a) (.int l) (.int c) (.int ((c : Int) + 1))) ((bink (g := addD mkL) (get_ok h0 (v4 _ _ _ _))).trans addi_ok)
  have ec : ((c : Int) + 1) = ((c + 1 : Nat) : Int) := by omega
  rw [ec] at s1
  have gl := get_ok (R := R) (x := X) (a := .int a) (c := .int (c + 1 : Nat)) h0 (v3 X (.int a) (.int l) (.int (c + 1 : Nat)))
  have cnd := tst_ok ((bink (g := gtD) gl).trans (show gtD (.int l) (.int 0) _ = .ok (.bl (decide ((0 : Int) < l))) _ from rfl))
  by_cases hl : (0 : Int) < l
  · rw [decide_eq_true hl] at cnd
    obtain ⟨r, hr, er⟩ := toNat_fmod (i := l) hm
    have t1 := set_ok (i := 2) ((bin_ok (g := modD) ((cal1_ok gl).trans int_ok) (getv_ok (i := 1) rfl)).trans (mod_ok hm0))
    rw [er] at t1
    let e1 : Fx.Env := [some (.obj 0), some (.int m), some (.int r), none, none, none]
    have gl2 := get_ok (R := R) (x := X) (a := .int a) (c := .int (c + 1 : Nat)) (env := e1) rfl (v3 X (.int a) (.int l) (.int (c + 1 : Nat)))
    have ed : (l : Int).fdiv m = ((l / m : Nat) : Int) := by rw [Int.fdiv_eq_ediv_of_nonneg _ (by omega)]; rfl
    have t2 := put_ok (R := R) (env := e1) rfl (p3 X (.int a) (.int l) (.int (c + 1 : Nat)) (.int ((l : Int).fdiv m))) ((bin_ok (g := fdivD) gl2 (getv_ok (i := 1) rfl)).trans (div_ok hm0 hmb))
    rw [ed] at t2
    refine ⟨r, _, hr, ⟨cells, a, l / m, c + 1, hc, rfl⟩, body_rt rfl ((seq_nx s1).trans (seq_rt ((ifS_t cnd).trans ((seq_nx t1).trans ((seq_nx t2).trans (ret_ok (getv_ok rfl)))))))⟩
  · rw [decide_eq_false hl] at cnd
    have t1 := set_ok (i := 3) (get_ok (R := R) (x := X) (l := .int l) (c := .int (c + 1 : Nat)) h0 (v2 X (.int a) (.int l) (.int (c + 1 : Nat))))
    let e1 : Fx.Env := [some (.obj 0), some (.int m), none, some (.int a), none, none]
    have s2 := put_ok (R := R) (env := e1) rfl (p2 X (.int a) (.int l) (.int (c + 1 : Nat)) (.int ((a : Int) + 1))) ((bink (g := addD mkL) (getv_ok (i := 3) rfl)).trans addi_ok)
    have ea : ((a : Int) + 1) = ((a + 1 : Nat) : Int) := by omega
    rw [ea] at s2
    let S2 : Store := St X (.int (a + 1 : Nat)) (.int l) (.int (c + 1 : Nat)) R
    have gc := get_ok (R := R) (x := X) (a := .int (a + 1 : Nat)) (l := .int l) (c := .int (c + 1 : Nat)) (env := e1) rfl (v1 X (.int (a + 1 : Nat)) (.int l) (.int (c + 1 : Nat)))
    have cell : ∃ x : Int, iteV (tst (bin neD (bin dgetD (getv 0) (fun _ => pur (.str "cells"))) (dsp mkL (fun _ => pur [])))) (bin ixD (bin dgetD (getv 0) (fun _ => pur (.str "cells"))) (bin modD (cal (cns (getv 3) (fun _ => pur [])) intD) (cal (cns (bin dgetD (getv 0) (fun _ => pur (.str "cells"))) (fun _ => pur [])) lenD))) (fun _ => pur (.int 37)) e1 S2 = .ok (.int x) S2 := by
      have q := tst_ok ((bin_ok (g := neD) gc (nilL _ _)).trans (ne_cells cells S2))
      cases hcs : cells.isEmpty with
      | true =>
        rw [hcs] at q
        exact ⟨37, (ite_f q).trans rfl⟩
      | false =>
        rw [hcs] at q
        have hpos : 0 < cells.length := by cases cells <;> simp at hcs ⊢
        obtain ⟨j, hj, ej⟩ := toNat_fmod (i := a) hpos
        have w1 := (bin_ok (g := modD) ((cal1_ok (getv_ok (i := 3) (env := e1) rfl)).trans int_ok) ((cal1_ok gc).trans len_lst)).trans (mod_ok (by simp; intro z; rw [z] at hpos; simp at hpos))
        rw [List.length_map, ej] at w1
        exact ⟨cells[j], (ite_t q).trans ((bin_ok (g := ixD) gc w1).trans (ix_lst rfl (by rw [List.getElem?_map, List.getElem?_eq_getElem hj]; rfl)))⟩
    obtain ⟨x, hx⟩ := cell
    have t4 := set_ok (i := 4) hx
    let e2 : Fx.Env := [some (.obj 0), some (.int m), none, some (.int a), some (.int x), none]
    have gc2 := get_ok (R := R) (x := X) (a := .int (a + 1 : Nat)) (l := .int l) (c := .int (c + 1 : Nat)) (env := e2) rfl (v1 X (.int (a + 1 : Nat)) (.int l) (.int (c + 1 : Nat)))
    have cnd2 : ∃ b : Bool, (b = true → (1000000000000000000 : Int) ≤ x) ∧ (andB (tst (bin geD (getv 4) (bin powD (fun _ => pur (.int 10)) (fun _ => pur (.int 18))))) (tst (bin ltD (getv 3) (cal (cns (bin dgetD (getv 0) (fun _ => pur (.str "cells"))) (fun _ => pur [])) lenD)))) e2 S2 = .ok b S2 := by
      have q := tst_ok ((bin_ok (g := geD) (getv_ok (i := 4) (env := e2) rfl) (kbink.trans pow18)).trans (show geD (.int x) (.int 1000000000000000000) S2 = .ok (.bl (decide ((1000000000000000000 : Int) ≤ x))) S2 from rfl))
      by_cases hge : (1000000000000000000 : Int) ≤ x
      · rw [decide_eq_true hge] at q
        exact ⟨_, fun _ => hge, (and_tt q).trans (tst_ok ((bin_ok (g := ltD) (getv_ok (i := 3) (env := e2) rfl) ((cal1_ok gc2).trans len_lst)).trans rfl))⟩
      · rw [decide_eq_false hge] at q
        exact ⟨false, (fun z => by cases z), and_ff q⟩
    obtain ⟨b, hb2, cnd2⟩ := cnd2
    have pre : ∀ {g : Fx.Env → MS} {fl : Fl} {S' : Store}, g e2 S2 = .ok fl S' → seqS (dput (getv 0) (fun _ => pur (.str "at")) (bin (addD mkL) (getv 3) (fun _ => pur (.int 1)))) (seqS (Fx.set 4 (iteV (tst (bin neD (bin dgetD (getv 0) (fun _ => pur (.str "cells"))) (dsp mkL (fun _ => pur [])))) (bin ixD (bin dgetD (getv 0) (fun _ => pur (.str "cells"))) (bin modD (cal (cns (getv 3) (fun _ => pur [])) intD) (cal (cns (bin dgetD (getv 0) (fun _ => pur (.str "cells"))) (fun _ => pur [])) lenD))) (fun _ => pur (.int 37)))) g) e1 (St X (.int a) (.int l) (.int (c + 1 : Nat)) R) = .ok fl S' :=
      fun h => (seq_nx s2).trans ((seq_nx t4).trans h)
    cases b with
    | true =>
      have hge := hb2 rfl
      obtain ⟨r, hr, er⟩ := toNat_fmod (i := x) hm
      have ed : ∃ q : Nat, x.fdiv m = (q : Int) := ⟨(x.fdiv m).toNat, by
        have : 0 ≤ x.fdiv m := by rw [Int.fdiv_eq_ediv_of_nonneg _ (by omega)]; exact Int.ediv_nonneg (by omega) (by omega)
        omega⟩
      obtain ⟨q, eq⟩ := ed
      have u1 := put_ok (R := R) (env := e2) rfl (p3 X (.int (a + 1 : Nat)) (.int l) (.int (c + 1 : Nat)) (.int (x.fdiv m))) ((bin_ok (g := fdivD) (getv_ok (i := 4) rfl) (getv_ok (i := 1) rfl)).trans (div_ok hm0 hmb))
      rw [eq] at u1
      have u2 := (bin_ok (g := modD) ((cal1_ok (getv_ok (i := 4) (env := e2) (S := St X (.int (a + 1 : Nat)) (.int q) (.int (c + 1 : Nat)) R) rfl)).trans int_ok) (getv_ok (i := 1) rfl)).trans (mod_ok hm0)
      rw [er] at u2
      exact ⟨r, _, hr, ⟨cells, a + 1, q, c + 1, hc, rfl⟩, body_rt rfl ((seq_nx s1).trans ((seq_nx ((ifS_f cnd).trans rfl)).trans ((seq_nx t1).trans (pre (seq_rt ((ifS_t cnd2).trans ((seq_nx u1).trans (ret_ok u2))))))))⟩
    | false =>
      have gn : ∀ z : Option D, bin dgetD (getv 0) (fun _ => pur (.str "count")) [some (.obj 0), some (.int m), none, some (.int a), some (.int x), z] S2 = .ok (.int (c + 1 : Nat)) S2 := fun z => get_ok (R := R) (x := X) (a := .int (a + 1 : Nat)) (l := .int l) (c := .int (c + 1 : Nat)) rfl (v4 X (.int (a + 1 : Nat)) (.int l) (.int (c + 1 : Nat)))
      have w1 := (bink (g := modD) (d := .int 2147483477) ((cal1_ok ((bink (g := addD mkL) (d := .int 73) ((bin_ok (g := addD mkL) ((bink (g := modD) (d := .int 1000000531) ((cal1_ok (getv_ok (i := 4) (env := e2) (S := S2) rfl)).trans int_ok)).trans (mod_ok (by decide)))
        ((kbin (g := mulD) (d := .int 150001) (gn none)).trans (mul_ok (.inl (b64 (i := 150001) (by decide)))))).trans addi_ok)).trans addi_ok)).trans int_ok)).trans (mod_ok (by decide))
      obtain ⟨r1, hr1, er1⟩ := toNat_fmod (i := x.fmod 1000000531 + 150001 * ((c + 1 : Nat) : Int) + 73) (m := 2147483477) (by decide)
      have w1 := set_ok (i := 5) w1
      rw [show (2147483477 : Int) = ((2147483477 : Nat) : Int) from rfl, er1] at w1
      let e3 : Fx.Env := [some (.obj 0), some (.int m), none, some (.int a), some (.int x), some (.int r1)]
      have g5 := getv_ok (i := 5) (env := e3) (S := S2) (d := .int r1) rfl
      have w2 := (bink (g := modD) (d := .int 2147483423) ((cal1_ok ((bink (g := addD mkL) (d := .int 41) ((bin_ok (g := addD mkL) ((bin_ok (g := mulD) g5 g5).trans (mul_ok (.inl (b64 (by omega)))))
        ((kbin (g := mulD) (d := .int 4200013) (gn (some (.int r1)))).trans (mul_ok (.inl (b64 (i := 4200013) (by decide)))))).trans addi_ok)).trans addi_ok)).trans int_ok)).trans (mod_ok (by decide))
      obtain ⟨r2, hr2, er2⟩ := toNat_fmod (i := (r1 : Int) * r1 + 4200013 * ((c + 1 : Nat) : Int) + 41) (m := 2147483423) (by decide)
      have w2 := set_ok (i := 5) w2
      rw [show (2147483423 : Int) = ((2147483423 : Nat) : Int) from rfl, er2] at w2
      let e4 : Fx.Env := [some (.obj 0), some (.int m), none, some (.int a), some (.int x), some (.int r2)]
      have g6 := getv_ok (i := 5) (env := e4) (S := S2) (d := .int r2) rfl
      have w3 := (bin_ok (g := modD) ((cal1_ok ((bink (g := fdivD) (d := .int 16) ((bink (g := modD) (d := .int 2147483353) ((cal1_ok ((bin_ok (g := addD mkL) ((bin_ok (g := mulD) g6 g6).trans (mul_ok (.inl (b64 (by omega)))))
        ((kbin (g := mulD) (d := .int 89) g6).trans (mul_ok (.inl (b64 (i := 89) (by decide)))))).trans addi_ok)).trans int_ok)).trans (mod_ok (by decide)))).trans (div_ok (by decide) (by decide)))).trans int_ok) (getv_ok (i := 1) rfl)).trans (mod_ok hm0)
      obtain ⟨r3, hr3, er3⟩ := toNat_fmod (i := ((((r2 : Int) * r2 + 89 * (r2 : Int)).fmod 2147483353).fdiv 16)) hm
      rw [er3] at w3
      exact ⟨r3, _, hr3, ⟨cells, a + 1, l, c + 1, hc, rfl⟩, body_rt rfl ((seq_nx s1).trans ((seq_nx ((ifS_f cnd).trans rfl)).trans ((seq_nx t1).trans (pre ((seq_nx ((ifS_f cnd2).trans rfl)).trans ((seq_nx w1).trans ((seq_nx w2).trans (ret_ok w3))))))))⟩
end K03

end
/-! ## K03g -/
section
namespace K03
variable [Fx.Tabl]
open PySem Fx
open L2 (atI ixN Key)
structure In (N W P : Nat) (d : D) : Prop where
  g : gd N d = true
  w : wgt d ≤ W
  p : dep d ≤ P
theorem In.mono {N W P N' W' P' : Nat} {d : D} (h : In N W P d) (h1 : N ≤ N') (h2 : W ≤ W') (h3 : P ≤ P') : In N' W' P' d := ⟨gd_mono h1 d h.g, Nat.le_trans h.w h2, Nat.le_trans h.p h3⟩
abbrev sw (ds : List D) : Nat := PyData.weightAll (pys ds)
theorem sw_cons (d : D) (ds : List D) : sw (d :: ds) = wgt d + 1 + sw ds := by simp [sw, pys, PyData.weightAll, wgt]
theorem sw_nil : sw [] = 0 := rfl
theorem sw_app : ∀ xs ys : List D, sw (xs ++ ys) = sw xs + sw ys
  | [], ys => by simp [sw_nil]
  | x :: xs, ys => by rw [List.cons_append, sw_cons, sw_cons, sw_app xs ys]; omega
theorem sw_rev : ∀ xs : List D, sw xs.reverse = sw xs
  | [] => rfl
  | x :: xs => by rw [List.reverse_cons, sw_app, sw_rev xs, sw_cons, sw_cons, sw_nil]; omega
theorem sw_sub {xs ys : List D} (h : xs.Sublist ys) : sw xs ≤ sw ys := by
  induction h with
  | slnil => exact Nat.le_refl _
  | cons a _ ih => rw [sw_cons]; omega
  | cons_cons a _ ih => rw [sw_cons, sw_cons]; omega
theorem cut_sub (xs : List D) (lo hi : Option Int) : (cutD xs lo hi).Sublist xs := (List.take_sublist _ _).trans (List.drop_sublist _ _)
theorem In.tup {N W P : Nat} {ds : List D} (h : ∀ d ∈ ds, gd N d = true ∧ dep d ≤ P) (hw : sw ds ≤ W) : In N W (P + 1) (.tup ds) :=
  ⟨by rw [gd, gds_mem]; exact fun d hd => (h d hd).1, hw, dep_tup fun d hd => (h d hd).2⟩
theorem In.lst {N W P : Nat} {ds : List D} (h : ∀ d ∈ ds, gd N d = true ∧ dep d ≤ P) (hw : sw ds ≤ W) : In N W (P + 1) (.lst ds) :=
  ⟨by rw [gd, gds_mem]; exact fun d hd => (h d hd).1, hw, dep_lst fun d hd => (h d hd).2⟩
theorem In.tup_inv {N W P : Nat} {ds : List D} (h : In N W P (.tup ds)) : ∃ Q, P = Q + 1 ∧ (∀ d ∈ ds, gd N d = true ∧ dep d ≤ Q) ∧ sw ds ≤ W := by
  have hp : PyData.depthAll (pys ds) + 1 ≤ P := h.p
  refine ⟨P - 1, by omega, fun d hd => ⟨gds_mem.mp (by simpa [gd] using h.g) d hd, dep_mem hd (by omega)⟩, h.w⟩
theorem wgt_int {i : Int} {k : Nat} (h : i.natAbs < 2 ^ k) : wgt (.int i) ≤ k := by
  simp only [wgt, py, PyData.weight]
  split
  · omega
  · rename_i h0
    have : i.natAbs ≠ 0 := by intro z; apply h0; simp; omega
    have := (Nat.log2_lt this).mpr h
    omega
theorem In.int {i : Int} {N : Nat} (h : i.natAbs ≤ N) (hN : N < 1073741824) (W P : Nat) (hW : 30 ≤ W) : In N W P (.int i) :=
  ⟨by simp [gd, h], Nat.le_trans (wgt_int (k := 30) (by omega)) hW, Nat.zero_le _⟩
theorem all_lt {x : Str} : x.cps.all (· < 128) = true ↔ ∀ c ∈ x.cps.toList, c < 128 := by
  rw [← Array.all_toList, List.all_eq_true]; simp
theorem In.str {x : Str} {N W P : Nat} (h : ∀ c ∈ x.cps.toList, c < 128) (hw : x.length ≤ W) : In N W P (.str x) := ⟨by rw [gd]; exact all_lt.mpr h, hw, Nat.zero_le _⟩
theorem cutS_mem {z : Str} {lo hi : Option Int} {c : Nat} (h : c ∈ (L2.cutS z lo hi).cps.toList) : c ∈ z.cps.toList := by
  simp only [L2.cutS] at h
  exact List.mem_of_mem_drop (List.mem_of_mem_take h)
theorem cutS_len (z : Str) (lo hi : Option Int) : (L2.cutS z lo hi).length ≤ z.length := by
  simp only [L2.cutS, Str.length, List.size_toArray, List.length_take, List.length_drop, Array.length_toList]; omega
theorem up128 : ∀ c, c < 128 → ∀ u ∈ Unicode.upperOf c, u < 128 := by decide +kernel
theorem upper_mem {z : Str} (hz : ∀ c ∈ z.cps.toList, c < 128) {u : Nat} (h : u ∈ (Txt.upper z).cps.toList) : u < 128 := by
  simp only [Txt.upper, placed, Array.mem_toList_iff, Array.mem_flatten, Array.mem_mapIdx] at h
  obtain ⟨xs, ⟨i, hi, rfl⟩, hu⟩ := h
  exact up128 _ (hz z.cps[i] (Array.mem_toList_iff.mpr (Array.getElem_mem hi))) u (by simpa using hu)
theorem app_mem {a b : Str} {c : Nat} (h : c ∈ (a ++ b).cps.toList) : c ∈ a.cps.toList ∨ c ∈ b.cps.toList := by
  rw [Str.cps_append] at h; simpa using h
theorem int_mem {i : Int} {c : Nat} (h : c ∈ (Str.ofString (toString i)).cps.toList) : c < 128 := by
  rw [Str.ofString_eq_toList] at h
  obtain ⟨ch, h1, rfl⟩ := List.mem_map.mp (by simpa using h)
  exact int_ascii i ch h1
theorem int_len {i : Int} (h : i.natAbs < 1073741824) : (Str.ofString (toString i)).length ≤ 31 := by
  rw [ofString_length]
  refine int_text_length_le (k := 30) (by decide) ?_
  by_cases h0 : i.natAbs = 0
  · rw [h0]; decide
  · exact (Nat.log2_lt h0).mpr (by omega)
/-! ### a draw in its place -/
theorem cal2_ok {f1 f2 : Fx.Env → M D} {g : List D → M D} {env : Fx.Env} {S : Store} {a b : D} (h1 : f1 env S = .ok a S) (h2 : f2 env S = .ok b S) : cal (cns f1 (cns f2 (fun _ => pur []))) g env S = g [a, b] S := by
  simp only [cal, cns, bd, h1, h2, pur]
theorem drawn {i : Nat} {f : Fx.Env → M D} {env : Fx.Env} {S R : Store} {m : Nat} (hi : env[i]? = some (some (.obj 0))) (hf : f env S = .ok (.int m) S) (hm : 0 < m) (hb : m < 1000000) (h : Fd S R) :
    ∃ (r : Nat) (S' : Store), r < m ∧ Fd S' R ∧ cal (cns (getv i) (cns f (fun _ => pur []))) g_law_draw env S = .ok (.int r) S' := by
  obtain ⟨r, S', h1, h2, h3⟩ := draw_ok hm hb h
  exact ⟨r, S', h1, h2, (cal2_ok (getv_ok hi) hf).trans h3⟩
def oddL : List D := [.non, .bl true, .bl false, .int 0, .int (-1), .int 1, .str "", .str "a", .str "if", .tup [], .lst [], .tup [.str "self"], .tup [.str "none"], .tup [.str "x"], .str "X", .tup [.str "not", .int 1], .tup [.int 0, .int 1]]
theorem oddL_in : ∀ d ∈ oddL, In 1 50 2 d := by
  have h : oddL.all (fun d => gd 1 d && decide (wgt d ≤ 50) && decide (dep d ≤ 2)) = true := by decide +kernel
  intro d hd
  have := List.all_eq_true.mp h d hd
  simp only [Bool.and_eq_true, decide_eq_true_eq] at this
  exact ⟨this.1.1, this.1.2, this.2⟩
theorem ix_nat {xs : List D} {r : Nat} {S : Store} (h : r < xs.length) : ixD (.lst xs) (.int r) S = .ok xs[r] S := ix_lst rfl (List.getElem?_eq_getElem h)
theorem bin_okS {g : D → D → M D} {f1 f2 : Fx.Env → M D} {env : Fx.Env} {S S1 S' : Store} {a b : D} (h1 : f1 env S = .ok a S1) (h2 : f2 env S1 = .ok b S') : bin g f1 f2 env S = g a b S' := by
  simp only [Fx.bin, bd, h1, h2]
theorem ret_okS {f : Fx.Env → M D} {env : Fx.Env} {S S' : Store} {a : D} (h1 : f env S = .ok a S') : Fx.ret f env S = .ok (.rt a) S' := by
  simp only [Fx.ret, lft, h1]
theorem odd_ok {S R : Store} (h : Fd S R) : ∃ (d : D) (S' : Store), In 1 50 2 d ∧ Fd S' R ∧ g_law_odd [.obj 0] S = .ok d S' := by
  let e1 : Fx.Env := [some (.obj 0), some (.lst oddL)]
  obtain ⟨r, S', hr, hF, hd⟩ := drawn (i := 0) (env := e1) (f := fun _ => pur (.int 17)) (m := 17) rfl rfl (by decide) (by decide) h
  have hr2 : r < oddL.length := hr
  refine ⟨oddL[r], S', oddL_in _ (List.getElem_mem _), hF, body_rt rfl ?_⟩
  refine (seq_nx (env' := e1) (S' := S) ?_).trans (ret_okS ((bin_okS (getv_ok (i := 1) rfl) hd).trans (ix_nat hr2)))
  exact set_ok (i := 1) (env := [some (.obj 0), none]) rfl
end K03

end
/-! ## K03h -/
section
namespace K03
variable [Fx.Tabl]
open PySem Fx
open L2 (atI ixN Key)
def bCond : Fx.Env → M Bool := (andB (tst (isi "tuple" (getv 1))) (andB (tst (bin neD (getv 1) (dsp mkT (fun _ => pur [])))) (tst (bin gtD (cal (cns (getv 0) (cns (fun _ => pur (.int 6)) (fun _ => pur []))) g_law_draw) (fun _ => pur (.int 0))))))
def bRec (g : List D → M D) : Fx.Env → MS := (seqS (Fx.set 2 (cal (cns (getv 0) (cns (cal (cns (getv 1) (fun _ => pur [])) lenD) (fun _ => pur []))) g_law_draw))
  (Fx.ret (bin (addD mkL) (bin (addD mkL) (slc (getv 1) (fun _ => pur none) (fun env => bd ((getv 2) env) intOf)) (dsp mkT (cns (cal (cns (getv 0) (cns (bin ixD (getv 1) (getv 2)) (fun _ => pur []))) g) (fun _ => pur [])))) (slc (getv 1) (fun env => bd ((bin (addD mkL) (getv 2) (fun _ => pur (.int 1))) env) intOf) (fun _ => pur none)))))
def bTc : Fx.Env → M Bool := (andB (tst (isi "tuple" (getv 1))) (tst (bin ltD (getv 3) (fun _ => pur (.int 7)))))
def bT : Fx.Env → MS := (seqS (Fx.set 4 (dsp mkL (cns (cal (cns (getv 1) (fun _ => pur [])) (listD mkL)) (cns (slc (getv 1) (fun env => bd ((fun _ => pur (.int 1)) env) intOf) (fun _ => pur none)) (cns (slc (getv 1) (fun _ => pur none) (fun env => bd ((un negD (fun _ => pur (.int 1))) env) intOf)) (cns (bin (addD mkL) (getv 1) (slc (getv 1) (fun env => bd ((un negD (fun _ => pur (.int 1))) env) intOf) (fun _ => pur none))) (fun _ => pur [])))))))
  (Fx.ret (bin ixD (bin (addD mkL) (getv 4) (dsp mkL (cns (un revD (getv 1)) (cns (dsp mkT (cns (getv 1) (fun _ => pur []))) (cns (bin (addD mkL) (getv 1) (dsp mkT (cns (fun _ => pur .non) (fun _ => pur [])))) (fun _ => pur [])))))) (getv 3))))
def bSc : Fx.Env → M Bool := (andB (tst (isi "str" (getv 1))) (tst (bin ltD (getv 3) (fun _ => pur (.int 6)))))
def bS : Fx.Env → MS := (Fx.ret (bin ixD (dsp mkL (cns (bin (addD mkL) (getv 1) (fun _ => pur (.str "a"))) (cns (slc (getv 1) (fun _ => pur none) (fun env => bd ((un negD (fun _ => pur (.int 1))) env) intOf)) (cns (un upD (getv 1)) (cns (bin (addD mkL) (getv 1) (fun _ => pur (.str " "))) (cns (dsp mkL (cns (getv 1) (fun _ => pur []))) (cns (bin (addD mkL) (getv 1) (fun _ => pur (.str "abcdefgh"))) (fun _ => pur [])))))))) (getv 3)))
def bIc : Fx.Env → M Bool := (andB (tst (isi "int" (getv 1))) (tst (bin ltD (getv 3) (fun _ => pur (.int 6)))))
def bI : Fx.Env → MS := (Fx.ret (bin ixD (dsp mkL (cns (bin (addD mkL) (getv 1) (fun _ => pur (.int 1))) (cns (bin subD (getv 1) (fun _ => pur (.int 1))) (cns (bin eqD (getv 1) (fun _ => pur (.int 1))) (cns (cal (cns (getv 1) (fun _ => pur [])) strD) (cns (bin subD (fun _ => pur (.int 0)) (getv 1)) (cns (dsp mkL (cns (getv 1) (fun _ => pur []))) (fun _ => pur [])))))))) (getv 3)))
def bLast : Fx.Env → MS := (Fx.ret (cal (cns (getv 0) (fun _ => pur [])) g_law_odd))
def bD3 : Fx.Env → MS := (Fx.set 3 (cal (cns (getv 0) (cns (fun _ => pur (.int 9)) (fun _ => pur []))) g_law_draw))
def bTail : Fx.Env → MS := seqS bD3 (seqS (ifS bTc bT pass) (seqS (ifS bSc bS pass) (seqS (ifS bIc bI pass) bLast)))
theorem bent_eq (g : List D → M D) : b_law_bent g = seqS (ifS bCond (bRec g) pass) bTail := rfl
def Good (N W P : Nat) (R : Store) (r : RsS) : Prop := ∃ d' S', In N W P d' ∧ Fd S' R ∧ r = .ok (.rt d') S'
theorem pick {L : List D} {N W P : Nat} {r : Nat} {S R : Store} {f1 f2 : Fx.Env → M D} {env : Fx.Env} (h : ∀ d ∈ L, In N W P d) (hr : r < L.length) (hF : Fd S R) (h1 : f1 env S = .ok (.lst L) S) (h2 : f2 env S = .ok (.int r) S) :
    Good N W P R (Fx.ret (bin ixD f1 f2) env S) :=
  ⟨L[r], S, h _ (List.getElem_mem _), hF, ret_okS ((bin_okS h1 h2).trans (ix_nat hr))⟩
theorem sz (n : Nat) (h : n ≤ 300000) : n ≤ sizeLine := Nat.le_trans h (by decide)
section
variable {N W P r : Nat} {S R : Store}
theorem tS_ok {x : Str} (hx : In N W P (.str x)) (hW : W ≤ 200000) (hF : Fd S R) (hr : r < 6) : Good (N + 1) (3 * W + 60) (P + 2) R (bS [some (.obj 0), some (.str x), none, some (.int r), none] S) := by
  have h1 : ∀ c ∈ x.cps.toList, c < 128 := all_lt.mp (by simpa [gd] using hx.g)
  have h2 : x.length ≤ W := hx.w
  have l1 : x.length ≤ sizeLine := sz _ (by omega)
  have l2 : x.length + 1 ≤ sizeLine := sz _ (by omega)
  have l3 : x.length + 8 ≤ sizeLine := sz _ (by omega)
  have l4 : x.length ≤ 5592405 := by omega
  have k1 : ("a" : Str).length = 1 := by decide +kernel
  have k2 : (" " : Str).length = 1 := by decide +kernel
  have k3 : ("abcdefgh" : Str).length = 8 := by decide +kernel
  have a1 : ∀ c ∈ ("a" : Str).cps.toList, c < 128 := by decide +kernel
  have a2 : ∀ c ∈ (" " : Str).cps.toList, c < 128 := by decide +kernel
  have a3 : ∀ c ∈ ("abcdefgh" : Str).cps.toList, c < 128 := by decide +kernel
  refine pick (L := [.str (x ++ ("a" : Str)), .str (L2.cutS x none (some (-1))), .str (Txt.upper x), .str (x ++ (" " : Str)), .lst [.str x], .str (x ++ ("abcdefgh" : Str))]) (r := r) ?_ hr hF ?_ (getv_ok rfl)
  · intro d hd
    simp only [List.mem_cons, List.not_mem_nil, or_false] at hd
    rcases hd with rfl | rfl | rfl | rfl | rfl | rfl
    · exact .str (fun c hc => (app_mem hc).elim (h1 c) (a1 c)) (by rw [strLen_append, k1]; omega)
    · exact .str (fun c hc => h1 c (cutS_mem hc)) (Nat.le_trans (cutS_len _ _ _) (by omega))
    · exact .str (fun c hc => upper_mem h1 hc) (Nat.le_trans (PyProof.Rows.len_upper x) (by omega))
    · exact .str (fun c hc => (app_mem hc).elim (h1 c) (a2 c)) (by rw [strLen_append, k2]; omega)
    · refine (In.lst (P := P) (W := W + 1) (fun d hd => ?_) ?_).mono (Nat.le_succ _) (by omega) (by omega)
      · rw [List.mem_singleton.mp hd]; exact ⟨hx.g, hx.p⟩
      · rw [sw_cons, sw_nil]; have := hx.w; omega
    · exact .str (fun c hc => (app_mem hc).elim (h1 c) (a3 c)) (by rw [strLen_append, k3]; omega)
  · have e6 : 6 ≤ sizeLine := by decide
    have e1 : 1 ≤ sizeLine := by decide
    simp [Fx.bodyD, Fx.ent, Fx.seqS, Fx.ifS, Fx.ret, Fx.set, Fx.drop, Fx.asg, Fx.lft, Fx.bd, Fx.pur, Fx.opt, Fx.tst, Fx.asB, Fx.bin, Fx.getv, Fx.cns, Fx.cal, Fx.un, Fx.andV, Fx.orV, Fx.notV, Fx.andB, Fx.orB, Fx.notB, Fx.iteV, Fx.isi, Fx.tyM, Fx.isT, Fx.dsp, Fx.itf, Fx.itm, Fx.pass, Fx.ite_ap, addD, slc, slD, intOf, negD, upD, k1, k2, k3, l1, l2, l3, l4, mkL, e6, e1]
theorem tI_ok {d : D} (hd : (∃ i, d = .int i) ∨ ∃ b, d = .bl b) (hx : In N W P d) (hN1 : 1 ≤ N) (hN : N < 1000000) (hF : Fd S R) (hr : r < 6) : Good (N + 1) (3 * W + 60) (P + 2) R (bI [some (.obj 0), some d, none, some (.int r), none] S) := by
  have e6 : 6 ≤ sizeLine := by decide
  have e1 : 1 ≤ sizeLine := by decide
  rcases hd with ⟨i, rfl⟩ | ⟨b, rfl⟩
  · have hi : i.natAbs ≤ N := by simpa [gd] using hx.g
    have hlog : i.natAbs.log2 < 1920 := by
      by_cases h0 : i.natAbs = 0
      · rw [h0]; decide
      · exact Nat.lt_trans ((Nat.log2_lt (k := 30) h0).mpr (by omega)) (by decide)
    refine pick (L := [.int (i + 1), .int (i - 1), .bl (i == 1), .str (Str.ofString (toString i)), .int (0 - i), .lst [.int i]]) (r := r) ?_ hr hF ?_ (getv_ok rfl)
    · intro d hd
      simp only [List.mem_cons, List.not_mem_nil, or_false] at hd
      rcases hd with rfl | rfl | rfl | rfl | rfl | rfl
      · exact .int (by omega) (by omega) _ _ (by omega)
      · exact .int (by omega) (by omega) _ _ (by omega)
      · exact ⟨rfl, Nat.zero_le _, Nat.zero_le _⟩
      · exact .str (fun c hc => int_mem hc) (Nat.le_trans (int_len (by omega)) (by omega))
      · exact .int (by omega) (by omega) _ _ (by omega)
      · refine (In.lst (P := P) (W := W + 1) (fun d hd => ?_) ?_).mono (Nat.le_succ _) (by omega) (by omega)
        · rw [List.mem_singleton.mp hd]; exact ⟨hx.g, hx.p⟩
        · rw [sw_cons, sw_nil]; have := hx.w; omega
    · simp [Fx.bodyD, Fx.ent, Fx.seqS, Fx.ifS, Fx.ret, Fx.set, Fx.drop, Fx.asg, Fx.lft, Fx.bd, Fx.pur, Fx.opt, Fx.tst, Fx.asB, Fx.bin, Fx.getv, Fx.cns, Fx.cal, Fx.un, Fx.andV, Fx.orV, Fx.notV, Fx.andB, Fx.orB, Fx.notB, Fx.iteV, Fx.isi, Fx.tyM, Fx.isT, Fx.dsp, Fx.itf, Fx.itm, Fx.pass, Fx.ite_ap, addD, subD, eqD_int, strD, hlog, mkL, e6, e1]
  · refine pick (L := [.int (b2 b + 1), .int (b2 b - 1), .bl b, .str (if b then "True" else "False"), .int (0 - b2 b), .lst [.bl b]]) (r := r) ?_ hr hF ?_ (getv_ok rfl)
    · have h : ∀ b : Bool, ∀ d ∈ [D.int (b2 b + 1), .int (b2 b - 1), .bl b, .str (if b then "True" else "False"), .int (0 - b2 b), .lst [.bl b]], (gd 2 d && decide (wgt d ≤ 50) && decide (dep d ≤ 1)) = true := by
        intro b; cases b <;> decide +kernel
      have hb2 : ∀ x : Int, x.natAbs ≤ 2 → x.natAbs ≤ N + 2 := fun x hx => by omega
      intro d hd
      have := h b d hd
      simp only [Bool.and_eq_true, decide_eq_true_eq] at this
      exact (In.mk this.1.1 this.1.2 this.2).mono (by omega) (by omega) (by omega)
    · have e7 : eqD (.bl b) (.int 1) S = .ok (.bl b) S := by
        rw [eqD_eq (n := 1) (m := 1) rfl rfl (Nat.zero_le _) (Nat.zero_le _)]
        cases b <;> rfl
      cases b <;> simp [Fx.bodyD, Fx.ent, Fx.seqS, Fx.ifS, Fx.ret, Fx.set, Fx.drop, Fx.asg, Fx.lft, Fx.bd, Fx.pur, Fx.opt, Fx.tst, Fx.asB, Fx.bin, Fx.getv, Fx.cns, Fx.cal, Fx.un, Fx.andV, Fx.orV, Fx.notV, Fx.andB, Fx.orB, Fx.notB, Fx.iteV, Fx.isi, Fx.tyM, Fx.isT, Fx.dsp, Fx.itf, Fx.itm, Fx.pass, Fx.ite_ap, addD, subD, e7, strD, mkL, e6, e1, b2]
theorem tT_ok {ds : List D} (hx : In N W P (.tup ds)) (hW : W ≤ 200000) (hF : Fd S R) (hr : r < 7) : Good (N + 1) (3 * W + 60) (P + 2) R (bT [some (.obj 0), some (.tup ds), none, some (.int r), none] S) := by
  obtain ⟨Q, rfl, hm, hs⟩ := hx.tup_inv
  have hl : ds.length ≤ W := Nat.le_trans (len_pys ds) hs
  have l1 : ds.length ≤ sizeLine := sz _ (by omega)
  have c1 := cut_sub ds (some (-1)) none
  have l2 : ds.length + (cutD ds (some (-1)) none).length ≤ sizeLine := by
    have h1 := c1.length_le
    have h2 : (400000 : Nat) ≤ sizeLine := by decide
    omega
  have l3 : ds.length + 1 ≤ sizeLine := sz _ (by omega)
  have e4 : 4 ≤ sizeLine := by decide
  have e3 : 3 ≤ sizeLine := by decide
  have e1 : 1 ≤ sizeLine := by decide
  have e7 : 7 ≤ sizeLine := by decide
  let L1 : List D := [.lst ds, .tup (cutD ds (some 1) none), .tup (cutD ds none (some (-1))), .tup (ds ++ cutD ds (some (-1)) none)]
  let L2 : List D := [.tup ds.reverse, .tup [.tup ds], .tup (ds ++ [.non])]
  have s1 := set_ok (i := 4) (env := [some (.obj 0), some (.tup ds), none, some (.int r), none]) (S := S) (S' := S) (d := .lst L1)
    (f := (dsp mkL (cns (cal (cns (getv 1) (fun _ => pur [])) (listD mkL)) (cns (slc (getv 1) (fun env => bd ((fun _ => pur (.int 1)) env) intOf) (fun _ => pur none)) (cns (slc (getv 1) (fun _ => pur none) (fun env => bd ((un negD (fun _ => pur (.int 1))) env) intOf)) (cns (bin (addD mkL) (getv 1) (slc (getv 1) (fun env => bd ((un negD (fun _ => pur (.int 1))) env) intOf) (fun _ => pur none))) (fun _ => pur []))))))) (by
      simp [Fx.bodyD, Fx.ent, Fx.seqS, Fx.ifS, Fx.ret, Fx.set, Fx.drop, Fx.asg, Fx.lft, Fx.bd, Fx.pur, Fx.opt, Fx.tst, Fx.asB, Fx.bin, Fx.getv, Fx.cns, Fx.cal, Fx.un, Fx.andV, Fx.orV, Fx.notV, Fx.andB, Fx.orB, Fx.notB, Fx.iteV, Fx.isi, Fx.tyM, Fx.isT, Fx.dsp, Fx.itf, Fx.itm, Fx.pass, Fx.ite_ap, addD, slc, slD, intOf, negD, listD, seqLT, l1, l2, mkL, e4, L1])
  have p2 := pick (N := N + 1) (W := 3 * W + 60) (P := Q + 1 + 2) (L := L1 ++ L2) (r := r) (S := S) (R := R) (env := [some (.obj 0), some (.tup ds), none, some (.int r), some (.lst L1)])
    (f1 := (bin (addD mkL) (getv 4) (dsp mkL (cns (un revD (getv 1)) (cns (dsp mkT (cns (getv 1) (fun _ => pur []))) (cns (bin (addD mkL) (getv 1) (dsp mkT (cns (fun _ => pur .non) (fun _ => pur [])))) (fun _ => pur []))))))) (f2 := getv 3) (by
      intro d hd
      have sub : ∀ {es : List D}, es.Sublist ds → ∀ d ∈ es, gd N d = true ∧ dep d ≤ Q := fun h d hd => hm d (h.subset hd)
      simp only [L1, L2, List.cons_append, List.nil_append, List.mem_cons, List.not_mem_nil, or_false] at hd
      rcases hd with rfl | rfl | rfl | rfl | rfl | rfl | rfl
      · exact (In.lst hm hs).mono (by omega) (by omega) (by omega)
      · exact (In.tup (sub (cut_sub _ _ _)) (Nat.le_trans (sw_sub (cut_sub _ _ _)) hs)).mono (by omega) (by omega) (by omega)
      · exact (In.tup (sub (cut_sub _ _ _)) (Nat.le_trans (sw_sub (cut_sub _ _ _)) hs)).mono (by omega) (by omega) (by omega)
      · refine (In.tup (W := 2 * W) (fun d hd => (List.mem_append.mp hd).elim (hm d) (sub c1 d)) ?_).mono (by omega) (by omega) (by omega)
        rw [sw_app]; have := sw_sub c1; omega
      · exact (In.tup (fun d hd => hm d (List.mem_reverse.mp hd)) (by rw [sw_rev]; exact hs)).mono (by omega) (by omega) (by omega)
      · refine (In.tup (P := Q + 1) (W := W + 1) (fun d hd => ?_) ?_).mono (Nat.le_succ _) (by omega) (by omega)
        · rw [List.mem_singleton.mp hd]; exact ⟨hx.g, hx.p⟩
        · rw [sw_cons, sw_nil]; have := hx.w; omega
      · refine (In.tup (P := Q) (W := W + 1) (fun d hd => (List.mem_append.mp hd).elim (hm d) (fun h => ?_)) ?_).mono (by omega) (by omega) (by omega)
        · rw [List.mem_singleton.mp h]; exact ⟨rfl, Nat.zero_le _⟩
        · rw [sw_app, sw_cons, sw_nil]; have : wgt .non = 0 := rfl; omega) hr hF (by
      simp [Fx.bodyD, Fx.ent, Fx.seqS, Fx.ifS, Fx.ret, Fx.set, Fx.drop, Fx.asg, Fx.lft, Fx.bd, Fx.pur, Fx.opt, Fx.tst, Fx.asB, Fx.bin, Fx.getv, Fx.cns, Fx.cal, Fx.un, Fx.andV, Fx.orV, Fx.notV, Fx.andB, Fx.orB, Fx.notB, Fx.iteV, Fx.isi, Fx.tyM, Fx.isT, Fx.dsp, Fx.itf, Fx.itm, Fx.pass, Fx.ite_ap, addD, catL, seqM, revD, l1, l3, mkL, mkT, e3, e7, e1, L1, L2]) (getv_ok rfl)
  obtain ⟨d', S', h1, h2, h3⟩ := p2
  exact ⟨d', S', h1, h2, (seq_nx s1).trans h3⟩
theorem odd_last {d : D} {z1 z2 z3 : Option D} (hN1 : 1 ≤ N) (hF : Fd S R) : Good (N + 1) (3 * W + 60) (P + 2) R (bLast [some (.obj 0), some d, z1, z2, z3] S) := by
  obtain ⟨d', S', h1, h2, h3⟩ := odd_ok hF
  exact ⟨d', S', h1.mono (by omega) (by omega) (by omega), h2, ret_okS ((cal1_ok (getv_ok rfl)).trans h3)⟩
theorem tail_ok {d : D} (hx : In N W P d) (hN1 : 1 ≤ N) (hN : N < 1000000) (hW : W ≤ 200000) (hF : Fd S R) : Good (N + 1) (3 * W + 60) (P + 2) R (bTail [some (.obj 0), some d, none, none, none] S) := by
  obtain ⟨r, S1, hr, hF1, hd⟩ := drawn (i := 0) (env := [some (.obj 0), some d, none, none, none]) (f := fun _ => pur (.int 9)) (m := 9) rfl rfl (by decide) (by decide) hF
  let e3 : Fx.Env := [some (.obj 0), some d, none, some (.int r), none]
  have fin : Good (N + 1) (3 * W + 60) (P + 2) R ((seqS (ifS bTc bT pass) (seqS (ifS bSc bS pass) (seqS (ifS bIc bI pass) bLast))) e3 S1) := by
    have skip : ∀ {c : Fx.Env → M Bool} {b rest : Fx.Env → MS}, c e3 S1 = .ok false S1 → Good (N + 1) (3 * W + 60) (P + 2) R (rest e3 S1) → Good (N + 1) (3 * W + 60) (P + 2) R (seqS (ifS c b pass) rest e3 S1) := by
      rintro c b rest h ⟨d', S', h1, h2, h3⟩
      exact ⟨d', S', h1, h2, (seq_nx (env' := e3) (S' := S1) ((ifS_f h).trans rfl)).trans h3⟩
    have take : ∀ {c : Fx.Env → M Bool} {b rest : Fx.Env → MS}, c e3 S1 = .ok true S1 → Good (N + 1) (3 * W + 60) (P + 2) R (b e3 S1) → Good (N + 1) (3 * W + 60) (P + 2) R (seqS (ifS c b pass) rest e3 S1) := by
      rintro c b rest h ⟨d', S', h1, h2, h3⟩
      exact ⟨d', S', h1, h2, seq_rt ((ifS_t h).trans h3)⟩
    have last : Good (N + 1) (3 * W + 60) (P + 2) R (bLast e3 S1) := odd_last hN1 hF1
    have hg := hx.g
    cases d <;> first
      | (simp [gd] at hg; done)
      | skip
    case non => exact skip (by simp [Fx.bodyD, Fx.ent, Fx.seqS, Fx.ifS, Fx.ret, Fx.set, Fx.drop, Fx.asg, Fx.lft, Fx.bd, Fx.pur, Fx.opt, Fx.tst, Fx.asB, Fx.bin, Fx.getv, Fx.cns, Fx.cal, Fx.un, Fx.andV, Fx.orV, Fx.notV, Fx.andB, Fx.orB, Fx.notB, Fx.iteV, Fx.isi, Fx.tyM, Fx.isT, Fx.dsp, Fx.itf, Fx.itm, Fx.pass, Fx.ite_ap, bTc, e3]) (skip (by simp [Fx.bodyD, Fx.ent, Fx.seqS, Fx.ifS, Fx.ret, Fx.set, Fx.drop, Fx.asg, Fx.lft, Fx.bd, Fx.pur, Fx.opt, Fx.tst, Fx.asB, Fx.bin, Fx.getv, Fx.cns, Fx.cal, Fx.un, Fx.andV, Fx.orV, Fx.notV, Fx.andB, Fx.orB, Fx.notB, Fx.iteV, Fx.isi, Fx.tyM, Fx.isT, Fx.dsp, Fx.itf, Fx.itm, Fx.pass, Fx.ite_ap, bSc, e3]) (skip (by simp [Fx.bodyD, Fx.ent, Fx.seqS, Fx.ifS, Fx.ret, Fx.set, Fx.drop, Fx.asg, Fx.lft, Fx.bd, Fx.pur, Fx.opt, Fx.tst, Fx.asB, Fx.bin, Fx.getv, Fx.cns, Fx.cal, Fx.un, Fx.andV, Fx.orV, Fx.notV, Fx.andB, Fx.orB, Fx.notB, Fx.iteV, Fx.isi, Fx.tyM, Fx.isT, Fx.dsp, Fx.itf, Fx.itm, Fx.pass, Fx.ite_ap, bIc, e3]) last))
    case lst ds => exact skip (by simp [Fx.bodyD, Fx.ent, Fx.seqS, Fx.ifS, Fx.ret, Fx.set, Fx.drop, Fx.asg, Fx.lft, Fx.bd, Fx.pur, Fx.opt, Fx.tst, Fx.asB, Fx.bin, Fx.getv, Fx.cns, Fx.cal, Fx.un, Fx.andV, Fx.orV, Fx.notV, Fx.andB, Fx.orB, Fx.notB, Fx.iteV, Fx.isi, Fx.tyM, Fx.isT, Fx.dsp, Fx.itf, Fx.itm, Fx.pass, Fx.ite_ap, bTc, e3]) (skip (by simp [Fx.bodyD, Fx.ent, Fx.seqS, Fx.ifS, Fx.ret, Fx.set, Fx.drop, Fx.asg, Fx.lft, Fx.bd, Fx.pur, Fx.opt, Fx.tst, Fx.asB, Fx.bin, Fx.getv, Fx.cns, Fx.cal, Fx.un, Fx.andV, Fx.orV, Fx.notV, Fx.andB, Fx.orB, Fx.notB, Fx.iteV, Fx.isi, Fx.tyM, Fx.isT, Fx.dsp, Fx.itf, Fx.itm, Fx.pass, Fx.ite_ap, bSc, e3]) (skip (by simp [Fx.bodyD, Fx.ent, Fx.seqS, Fx.ifS, Fx.ret, Fx.set, Fx.drop, Fx.asg, Fx.lft, Fx.bd, Fx.pur, Fx.opt, Fx.tst, Fx.asB, Fx.bin, Fx.getv, Fx.cns, Fx.cal, Fx.un, Fx.andV, Fx.orV, Fx.notV, Fx.andB, Fx.orB, Fx.notB, Fx.iteV, Fx.isi, Fx.tyM, Fx.isT, Fx.dsp, Fx.itf, Fx.itm, Fx.pass, Fx.ite_ap, bIc, e3]) last))
    case tup ds =>
      by_cases h7 : r < 7
      · have h7' : (r : Int) < 7 := by omega
        exact take (by simp [Fx.bodyD, Fx.ent, Fx.seqS, Fx.ifS, Fx.ret, Fx.set, Fx.drop, Fx.asg, Fx.lft, Fx.bd, Fx.pur, Fx.opt, Fx.tst, Fx.asB, Fx.bin, Fx.getv, Fx.cns, Fx.cal, Fx.un, Fx.andV, Fx.orV, Fx.notV, Fx.andB, Fx.orB, Fx.notB, Fx.iteV, Fx.isi, Fx.tyM, Fx.isT, Fx.dsp, Fx.itf, Fx.itm, Fx.pass, Fx.ite_ap, bTc, e3, ltD, h7']) (tT_ok hx hW hF1 h7)
      · have h7' : ¬ (r : Int) < 7 := by omega
        exact skip (by simp [Fx.bodyD, Fx.ent, Fx.seqS, Fx.ifS, Fx.ret, Fx.set, Fx.drop, Fx.asg, Fx.lft, Fx.bd, Fx.pur, Fx.opt, Fx.tst, Fx.asB, Fx.bin, Fx.getv, Fx.cns, Fx.cal, Fx.un, Fx.andV, Fx.orV, Fx.notV, Fx.andB, Fx.orB, Fx.notB, Fx.iteV, Fx.isi, Fx.tyM, Fx.isT, Fx.dsp, Fx.itf, Fx.itm, Fx.pass, Fx.ite_ap, bTc, e3, ltD, h7']) (skip (by simp [Fx.bodyD, Fx.ent, Fx.seqS, Fx.ifS, Fx.ret, Fx.set, Fx.drop, Fx.asg, Fx.lft, Fx.bd, Fx.pur, Fx.opt, Fx.tst, Fx.asB, Fx.bin, Fx.getv, Fx.cns, Fx.cal, Fx.un, Fx.andV, Fx.orV, Fx.notV, Fx.andB, Fx.orB, Fx.notB, Fx.iteV, Fx.isi, Fx.tyM, Fx.isT, Fx.dsp, Fx.itf, Fx.itm, Fx.pass, Fx.ite_ap, bSc, e3]) (skip (by simp [Fx.bodyD, Fx.ent, Fx.seqS, Fx.ifS, Fx.ret, Fx.set, Fx.drop, Fx.asg, Fx.lft, Fx.bd, Fx.pur, Fx.opt, Fx.tst, Fx.asB, Fx.bin, Fx.getv, Fx.cns, Fx.cal, Fx.un, Fx.andV, Fx.orV, Fx.notV, Fx.andB, Fx.orB, Fx.notB, Fx.iteV, Fx.isi, Fx.tyM, Fx.isT, Fx.dsp, Fx.itf, Fx.itm, Fx.pass, Fx.ite_ap, bIc, e3]) last))
    case str x =>
      by_cases h6 : r < 6
      · have h6' : (r : Int) < 6 := by omega
        exact skip (by simp [Fx.bodyD, Fx.ent, Fx.seqS, Fx.ifS, Fx.ret, Fx.set, Fx.drop, Fx.asg, Fx.lft, Fx.bd, Fx.pur, Fx.opt, Fx.tst, Fx.asB, Fx.bin, Fx.getv, Fx.cns, Fx.cal, Fx.un, Fx.andV, Fx.orV, Fx.notV, Fx.andB, Fx.orB, Fx.notB, Fx.iteV, Fx.isi, Fx.tyM, Fx.isT, Fx.dsp, Fx.itf, Fx.itm, Fx.pass, Fx.ite_ap, bTc, e3]) (take (by simp [Fx.bodyD, Fx.ent, Fx.seqS, Fx.ifS, Fx.ret, Fx.set, Fx.drop, Fx.asg, Fx.lft, Fx.bd, Fx.pur, Fx.opt, Fx.tst, Fx.asB, Fx.bin, Fx.getv, Fx.cns, Fx.cal, Fx.un, Fx.andV, Fx.orV, Fx.notV, Fx.andB, Fx.orB, Fx.notB, Fx.iteV, Fx.isi, Fx.tyM, Fx.isT, Fx.dsp, Fx.itf, Fx.itm, Fx.pass, Fx.ite_ap, bSc, e3, ltD, h6']) (tS_ok hx hW hF1 h6))
      · have h6' : ¬ (r : Int) < 6 := by omega
        exact skip (by simp [Fx.bodyD, Fx.ent, Fx.seqS, Fx.ifS, Fx.ret, Fx.set, Fx.drop, Fx.asg, Fx.lft, Fx.bd, Fx.pur, Fx.opt, Fx.tst, Fx.asB, Fx.bin, Fx.getv, Fx.cns, Fx.cal, Fx.un, Fx.andV, Fx.orV, Fx.notV, Fx.andB, Fx.orB, Fx.notB, Fx.iteV, Fx.isi, Fx.tyM, Fx.isT, Fx.dsp, Fx.itf, Fx.itm, Fx.pass, Fx.ite_ap, bTc, e3]) (skip (by simp [Fx.bodyD, Fx.ent, Fx.seqS, Fx.ifS, Fx.ret, Fx.set, Fx.drop, Fx.asg, Fx.lft, Fx.bd, Fx.pur, Fx.opt, Fx.tst, Fx.asB, Fx.bin, Fx.getv, Fx.cns, Fx.cal, Fx.un, Fx.andV, Fx.orV, Fx.notV, Fx.andB, Fx.orB, Fx.notB, Fx.iteV, Fx.isi, Fx.tyM, Fx.isT, Fx.dsp, Fx.itf, Fx.itm, Fx.pass, Fx.ite_ap, bSc, e3, ltD, h6']) (skip (by simp [Fx.bodyD, Fx.ent, Fx.seqS, Fx.ifS, Fx.ret, Fx.set, Fx.drop, Fx.asg, Fx.lft, Fx.bd, Fx.pur, Fx.opt, Fx.tst, Fx.asB, Fx.bin, Fx.getv, Fx.cns, Fx.cal, Fx.un, Fx.andV, Fx.orV, Fx.notV, Fx.andB, Fx.orB, Fx.notB, Fx.iteV, Fx.isi, Fx.tyM, Fx.isT, Fx.dsp, Fx.itf, Fx.itm, Fx.pass, Fx.ite_ap, bIc, e3]) last))
    case int i =>
      by_cases h6 : r < 6
      · have h6' : (r : Int) < 6 := by omega
        exact skip (by simp [Fx.bodyD, Fx.ent, Fx.seqS, Fx.ifS, Fx.ret, Fx.set, Fx.drop, Fx.asg, Fx.lft, Fx.bd, Fx.pur, Fx.opt, Fx.tst, Fx.asB, Fx.bin, Fx.getv, Fx.cns, Fx.cal, Fx.un, Fx.andV, Fx.orV, Fx.notV, Fx.andB, Fx.orB, Fx.notB, Fx.iteV, Fx.isi, Fx.tyM, Fx.isT, Fx.dsp, Fx.itf, Fx.itm, Fx.pass, Fx.ite_ap, bTc, e3]) (skip (by simp [Fx.bodyD, Fx.ent, Fx.seqS, Fx.ifS, Fx.ret, Fx.set, Fx.drop, Fx.asg, Fx.lft, Fx.bd, Fx.pur, Fx.opt, Fx.tst, Fx.asB, Fx.bin, Fx.getv, Fx.cns, Fx.cal, Fx.un, Fx.andV, Fx.orV, Fx.notV, Fx.andB, Fx.orB, Fx.notB, Fx.iteV, Fx.isi, Fx.tyM, Fx.isT, Fx.dsp, Fx.itf, Fx.itm, Fx.pass, Fx.ite_ap, bSc, e3]) (take (by simp [Fx.bodyD, Fx.ent, Fx.seqS, Fx.ifS, Fx.ret, Fx.set, Fx.drop, Fx.asg, Fx.lft, Fx.bd, Fx.pur, Fx.opt, Fx.tst, Fx.asB, Fx.bin, Fx.getv, Fx.cns, Fx.cal, Fx.un, Fx.andV, Fx.orV, Fx.notV, Fx.andB, Fx.orB, Fx.notB, Fx.iteV, Fx.isi, Fx.tyM, Fx.isT, Fx.dsp, Fx.itf, Fx.itm, Fx.pass, Fx.ite_ap, bIc, e3, ltD, h6']) (tI_ok (.inl ⟨i, rfl⟩) hx hN1 hN hF1 h6)))
      · have h6' : ¬ (r : Int) < 6 := by omega
        exact skip (by simp [Fx.bodyD, Fx.ent, Fx.seqS, Fx.ifS, Fx.ret, Fx.set, Fx.drop, Fx.asg, Fx.lft, Fx.bd, Fx.pur, Fx.opt, Fx.tst, Fx.asB, Fx.bin, Fx.getv, Fx.cns, Fx.cal, Fx.un, Fx.andV, Fx.orV, Fx.notV, Fx.andB, Fx.orB, Fx.notB, Fx.iteV, Fx.isi, Fx.tyM, Fx.isT, Fx.dsp, Fx.itf, Fx.itm, Fx.pass, Fx.ite_ap, bTc, e3]) (skip (by simp [Fx.bodyD, Fx.ent, Fx.seqS, Fx.ifS, Fx.ret, Fx.set, Fx.drop, Fx.asg, Fx.lft, Fx.bd, Fx.pur, Fx.opt, Fx.tst, Fx.asB, Fx.bin, Fx.getv, Fx.cns, Fx.cal, Fx.un, Fx.andV, Fx.orV, Fx.notV, Fx.andB, Fx.orB, Fx.notB, Fx.iteV, Fx.isi, Fx.tyM, Fx.isT, Fx.dsp, Fx.itf, Fx.itm, Fx.pass, Fx.ite_ap, bSc, e3]) (skip (by simp [Fx.bodyD, Fx.ent, Fx.seqS, Fx.ifS, Fx.ret, Fx.set, Fx.drop, Fx.asg, Fx.lft, Fx.bd, Fx.pur, Fx.opt, Fx.tst, Fx.asB, Fx.bin, Fx.getv, Fx.cns, Fx.cal, Fx.un, Fx.andV, Fx.orV, Fx.notV, Fx.andB, Fx.orB, Fx.notB, Fx.iteV, Fx.isi, Fx.tyM, Fx.isT, Fx.dsp, Fx.itf, Fx.itm, Fx.pass, Fx.ite_ap, bIc, e3, ltD, h6']) last))
    case bl b =>
      by_cases h6 : r < 6
      · have h6' : (r : Int) < 6 := by omega
        exact skip (by simp [Fx.bodyD, Fx.ent, Fx.seqS, Fx.ifS, Fx.ret, Fx.set, Fx.drop, Fx.asg, Fx.lft, Fx.bd, Fx.pur, Fx.opt, Fx.tst, Fx.asB, Fx.bin, Fx.getv, Fx.cns, Fx.cal, Fx.un, Fx.andV, Fx.orV, Fx.notV, Fx.andB, Fx.orB, Fx.notB, Fx.iteV, Fx.isi, Fx.tyM, Fx.isT, Fx.dsp, Fx.itf, Fx.itm, Fx.pass, Fx.ite_ap, bTc, e3]) (skip (by simp [Fx.bodyD, Fx.ent, Fx.seqS, Fx.ifS, Fx.ret, Fx.set, Fx.drop, Fx.asg, Fx.lft, Fx.bd, Fx.pur, Fx.opt, Fx.tst, Fx.asB, Fx.bin, Fx.getv, Fx.cns, Fx.cal, Fx.un, Fx.andV, Fx.orV, Fx.notV, Fx.andB, Fx.orB, Fx.notB, Fx.iteV, Fx.isi, Fx.tyM, Fx.isT, Fx.dsp, Fx.itf, Fx.itm, Fx.pass, Fx.ite_ap, bSc, e3]) (take (by simp [Fx.bodyD, Fx.ent, Fx.seqS, Fx.ifS, Fx.ret, Fx.set, Fx.drop, Fx.asg, Fx.lft, Fx.bd, Fx.pur, Fx.opt, Fx.tst, Fx.asB, Fx.bin, Fx.getv, Fx.cns, Fx.cal, Fx.un, Fx.andV, Fx.orV, Fx.notV, Fx.andB, Fx.orB, Fx.notB, Fx.iteV, Fx.isi, Fx.tyM, Fx.isT, Fx.dsp, Fx.itf, Fx.itm, Fx.pass, Fx.ite_ap, bIc, e3, ltD, h6']) (tI_ok (.inr ⟨b, rfl⟩) hx hN1 hN hF1 h6)))
      · have h6' : ¬ (r : Int) < 6 := by omega
        exact skip (by simp [Fx.bodyD, Fx.ent, Fx.seqS, Fx.ifS, Fx.ret, Fx.set, Fx.drop, Fx.asg, Fx.lft, Fx.bd, Fx.pur, Fx.opt, Fx.tst, Fx.asB, Fx.bin, Fx.getv, Fx.cns, Fx.cal, Fx.un, Fx.andV, Fx.orV, Fx.notV, Fx.andB, Fx.orB, Fx.notB, Fx.iteV, Fx.isi, Fx.tyM, Fx.isT, Fx.dsp, Fx.itf, Fx.itm, Fx.pass, Fx.ite_ap, bTc, e3]) (skip (by simp [Fx.bodyD, Fx.ent, Fx.seqS, Fx.ifS, Fx.ret, Fx.set, Fx.drop, Fx.asg, Fx.lft, Fx.bd, Fx.pur, Fx.opt, Fx.tst, Fx.asB, Fx.bin, Fx.getv, Fx.cns, Fx.cal, Fx.un, Fx.andV, Fx.orV, Fx.notV, Fx.andB, Fx.orB, Fx.notB, Fx.iteV, Fx.isi, Fx.tyM, Fx.isT, Fx.dsp, Fx.itf, Fx.itm, Fx.pass, Fx.ite_ap, bSc, e3]) (skip (by simp [Fx.bodyD, Fx.ent, Fx.seqS, Fx.ifS, Fx.ret, Fx.set, Fx.drop, Fx.asg, Fx.lft, Fx.bd, Fx.pur, Fx.opt, Fx.tst, Fx.asB, Fx.bin, Fx.getv, Fx.cns, Fx.cal, Fx.un, Fx.andV, Fx.orV, Fx.notV, Fx.andB, Fx.orB, Fx.notB, Fx.iteV, Fx.isi, Fx.tyM, Fx.isT, Fx.dsp, Fx.itf, Fx.itm, Fx.pass, Fx.ite_ap, bIc, e3, ltD, h6']) last))
  obtain ⟨d', S', h1, h2, h3⟩ := fin
  exact ⟨d', S', h1, h2, (seq_nx (set_ok (i := 3) hd)).trans h3⟩
theorem cut_take {ds : List D} {s : Nat} (h : s ≤ ds.length) : cutD ds none (some (s : Int)) = ds.take s := by
  unfold cutD
  rw [HT.sIx_none, HT.sIx_nat, Nat.min_eq_left h]; simp
theorem cut_drop {ds : List D} {s : Nat} (h : s ≤ ds.length) : cutD ds (some (s : Int)) none = ds.drop s := by
  unfold cutD
  rw [HT.sIx_none, HT.sIx_nat, Nat.min_eq_left h, List.take_of_length_le (by simp)]
theorem bent_ok : ∀ (k : Nat) (d : D) (N W P : Nat) (S R : Store), Fd S R → 1 ≤ N → N < 1000000 → In N W P d → W ≤ 200000 → P ≤ 60 → P < k →
    ∃ d' S', In (N + 1) (3 * W + 60) (P + 2) d' ∧ Fd S' R ∧ g_law_bent k [.obj 0, d] S = .ok d' S'
  | 0, _, _, _, _, _, _, _, _, _, _, _, _, h => absurd h (Nat.not_lt_zero _)
  | k + 1, d, N, W, P, S, R, hF, hN1, hN, hx, hW, hP, hk => by
    let e0 : Fx.Env := [some (.obj 0), some d, none, none, none]
    have skip : ∀ S1, Fd S1 R → bCond e0 S = .ok false S1 → ∃ d' S', In (N + 1) (3 * W + 60) (P + 2) d' ∧ Fd S' R ∧ g_law_bent (k + 1) [.obj 0, d] S = .ok d' S' := by
      intro S1 hF1 h
      obtain ⟨d', S', h1, h2, h3⟩ := tail_ok hx hN1 hN hW hF1
      refine ⟨d', S', h1, h2, body_rt rfl ?_⟩
      rw [bent_eq]
      exact (seq_nx (env' := e0) ((ifS_f h).trans rfl)).trans h3
    have hg := hx.g
    by_cases ht : ∃ ds, d = .tup ds ∧ ds ≠ []
    case neg =>
      refine skip S hF ?_
      cases d <;> first
        | (simp [gd] at hg; done)
        | skip
      case tup ds =>
        have : ds = [] := Classical.byContradiction fun z => ht ⟨ds, rfl, z⟩
        subst this
        have e : neD (.tup []) (.tup []) S = .ok (.bl false) S := by rw [neD_eq (n := N) (m := N) hg hg (by show 1 ≤ 64; decide) (by show 1 ≤ 64; decide)]; rfl
        have e2 := tst_ok ((bin_ok (g := neD) (f1 := getv 1) (env := e0) (S := S) (getv_ok rfl) (nilT _ _)).trans e)
        exact (and_tt (by simp [Fx.bodyD, Fx.ent, Fx.seqS, Fx.ifS, Fx.ret, Fx.set, Fx.drop, Fx.asg, Fx.lft, Fx.bd, Fx.pur, Fx.opt, Fx.tst, Fx.asB, Fx.bin, Fx.getv, Fx.cns, Fx.cal, Fx.un, Fx.andV, Fx.orV, Fx.notV, Fx.andB, Fx.orB, Fx.notB, Fx.iteV, Fx.isi, Fx.tyM, Fx.isT, Fx.dsp, Fx.itf, Fx.itm, Fx.pass, Fx.ite_ap, e0])).trans (and_ff e2)
      all_goals exact and_ff (by simp [Fx.bodyD, Fx.ent, Fx.seqS, Fx.ifS, Fx.ret, Fx.set, Fx.drop, Fx.asg, Fx.lft, Fx.bd, Fx.pur, Fx.opt, Fx.tst, Fx.asB, Fx.bin, Fx.getv, Fx.cns, Fx.cal, Fx.un, Fx.andV, Fx.orV, Fx.notV, Fx.andB, Fx.orB, Fx.notB, Fx.iteV, Fx.isi, Fx.tyM, Fx.isT, Fx.dsp, Fx.itf, Fx.itm, Fx.pass, Fx.ite_ap, e0])
    obtain ⟨ds, rfl, hne⟩ := ht
    obtain ⟨Q, rfl, hm, hs⟩ := hx.tup_inv
    have e : neD (.tup ds) (.tup []) S = .ok (.bl true) S := by
      rw [neD_eq (n := N) (m := N) hg rfl (Nat.le_trans hx.p (by omega)) (by show 1 ≤ 64; decide), eqP_nilT]
      cases ds <;> simp at hne ⊢
    have e2 := tst_ok ((bin_ok (g := neD) (f1 := getv 1) (env := e0) (S := S) (getv_ok rfl) (nilT _ _)).trans e)
    obtain ⟨r, S1, hr, hF1, hd⟩ := drawn (i := 0) (env := e0) (f := fun _ => pur (.int 6)) (m := 6) rfl rfl (by decide) (by decide) hF
    have e3 := tst_ok ((bin_okS (g := gtD) (f2 := fun _ => pur (.int 0)) hd rfl).trans (show gtD (.int r) (.int 0) S1 = .ok (.bl (decide ((0 : Int) < r))) S1 from rfl))
    have cnd : bCond e0 S = .ok (decide ((0 : Int) < r)) S1 := (and_tt (by simp [Fx.bodyD, Fx.ent, Fx.seqS, Fx.ifS, Fx.ret, Fx.set, Fx.drop, Fx.asg, Fx.lft, Fx.bd, Fx.pur, Fx.opt, Fx.tst, Fx.asB, Fx.bin, Fx.getv, Fx.cns, Fx.cal, Fx.un, Fx.andV, Fx.orV, Fx.notV, Fx.andB, Fx.orB, Fx.notB, Fx.iteV, Fx.isi, Fx.tyM, Fx.isT, Fx.dsp, Fx.itf, Fx.itm, Fx.pass, Fx.ite_ap, e0])).trans ((and_tt e2).trans e3)
    by_cases h0 : (0 : Int) < r
    case neg =>
      rw [decide_eq_false h0] at cnd
      exact skip S1 hF1 cnd
    rw [decide_eq_true h0] at cnd
    have hl : ds.length ≤ W := Nat.le_trans (len_pys ds) hs
    obtain ⟨s, S2, hs2, hF2, hd2⟩ := drawn (i := 0) (env := e0) (f := cal (cns (getv 1) (fun _ => pur [])) lenD) (m := ds.length) rfl ((cal1_ok (getv_ok rfl)).trans rfl) (List.length_pos_iff.mpr hne) (by omega) hF1
    let e1 : Fx.Env := [some (.obj 0), some (.tup ds), some (.int s), none, none]
    have hmem : ds[s] ∈ ds := List.getElem_mem _
    obtain ⟨x', S3, hx', hF3, hb⟩ := bent_ok k ds[s] N (wgt ds[s]) Q S2 R hF2 hN1 hN ⟨(hm _ hmem).1, Nat.le_refl _, (hm _ hmem).2⟩ (by have := wgt_mem hmem; have : sw ds = PyData.weightAll (pys ds) := rfl; omega) (by omega) (by omega)
    have hsplit : ds = ds.take s ++ ds[s] :: ds.drop (s + 1) := by rw [← List.drop_eq_getElem_cons hs2, List.take_append_drop]
    have hsw : sw (ds.take s) + (wgt ds[s] + 1 + sw (ds.drop (s + 1))) ≤ W := by
      rw [← sw_cons, ← sw_app, ← hsplit]; exact hs
    have l0 : ds.length ≤ sizeLine := sz _ (by omega)
    have a1 : slc (getv 1) (fun _ => pur none) (fun env => bd ((getv 2) env) intOf) e1 S2 = .ok (.tup (ds.take s)) S2 := by
      simp [Fx.bodyD, Fx.ent, Fx.seqS, Fx.ifS, Fx.ret, Fx.set, Fx.drop, Fx.asg, Fx.lft, Fx.bd, Fx.pur, Fx.opt, Fx.tst, Fx.asB, Fx.bin, Fx.getv, Fx.cns, Fx.cal, Fx.un, Fx.andV, Fx.orV, Fx.notV, Fx.andB, Fx.orB, Fx.notB, Fx.iteV, Fx.isi, Fx.tyM, Fx.isT, Fx.dsp, Fx.itf, Fx.itm, Fx.pass, Fx.ite_ap, slc, slD, intOf, l0, e1, cut_take (Nat.le_of_lt hs2)]
    have a2 : dsp mkT (cns (cal (cns (getv 0) (cns (bin ixD (getv 1) (getv 2)) (fun _ => pur []))) (g_law_bent k)) (fun _ => pur [])) e1 S2 = .ok (.tup [x']) S3 := by
      have i1 : ixD (.tup ds) (.int s) S2 = .ok ds[s] S2 := by
        simp only [ixD, seqLT, seqL, seqM, bd, pur, atI_nat hs2, List.getElem?_eq_getElem hs2, opt]
      have := (cal2_ok (g := g_law_bent k) (getv_ok (i := 0) (env := e1) (S := S2) rfl) ((bin_ok (g := ixD) (getv_ok (i := 1) rfl) (getv_ok (i := 2) rfl)).trans i1)).trans hb
      have e1' : 1 ≤ sizeLine := by decide
      simp only [dsp, cns, bd, this, pur, mkT]
      rw [if_pos (by exact e1')]; rfl
    have a3 : slc (getv 1) (fun env => bd ((bin (addD mkL) (getv 2) (fun _ => pur (.int 1))) env) intOf) (fun _ => pur none) e1 S3 = .ok (.tup (ds.drop (s + 1))) S3 := by
      have := cut_drop (ds := ds) (s := s + 1) hs2
      have ec : ((s : Int) + 1) = ((s + 1 : Nat) : Int) := by omega
      rw [← ec] at this
      simp [Fx.bodyD, Fx.ent, Fx.seqS, Fx.ifS, Fx.ret, Fx.set, Fx.drop, Fx.asg, Fx.lft, Fx.bd, Fx.pur, Fx.opt, Fx.tst, Fx.asB, Fx.bin, Fx.getv, Fx.cns, Fx.cal, Fx.un, Fx.andV, Fx.orV, Fx.notV, Fx.andB, Fx.orB, Fx.notB, Fx.iteV, Fx.isi, Fx.tyM, Fx.isT, Fx.dsp, Fx.itf, Fx.itm, Fx.pass, Fx.ite_ap, slc, slD, intOf, l0, e1, addD, this]
    have b1 : addD mkL (.tup (ds.take s)) (.tup [x']) S3 = .ok (.tup (ds.take s ++ [x'])) S3 := by
      simp only [addD]
      rw [if_pos (sz _ (by simp; omega))]; rfl
    have b2 : addD mkL (.tup (ds.take s ++ [x'])) (.tup (ds.drop (s + 1))) S3 = .ok (.tup (ds.take s ++ [x'] ++ ds.drop (s + 1))) S3 := by
      simp only [addD]
      rw [if_pos (sz _ (by simp; omega))]; rfl
    refine ⟨.tup (ds.take s ++ [x'] ++ ds.drop (s + 1)), S3, ?_, hF3, body_rt rfl ?_⟩
    · refine (In.tup (P := Q + 2) (W := 3 * W + 60) (fun d hd => ?_) ?_).mono (Nat.le_refl _) (Nat.le_refl _) (by omega)
      · simp only [List.mem_append, List.mem_singleton] at hd
        rcases hd with (hd | rfl) | hd
        · have := hm d (List.mem_of_mem_take hd); exact ⟨gd_mono (Nat.le_succ _) _ this.1, by omega⟩
        · exact ⟨hx'.g, hx'.p⟩
        · have := hm d (List.mem_of_mem_drop hd); exact ⟨gd_mono (Nat.le_succ _) _ this.1, by omega⟩
      · rw [sw_app, sw_app, sw_cons, sw_nil]; have := hx'.w; omega
    · rw [bent_eq]
      refine seq_rt ((ifS_t cnd).trans ((seq_nx (set_ok (i := 2) hd2)).trans (ret_okS ((bin_okS ((bin_okS a1 a2).trans b1) a3).trans b2))))
end
end K03

end
/-! ## K03i -/
section
namespace K03
variable [Fx.Tabl]
open PySem Fx
open L2 (atI ixN Key)
theorem Fd.get {S R : Store} (h : Fd S R) (n : Nat) : S[n + 1]? = R[n]? := by obtain ⟨_, _, _, _, _, rfl⟩ := h; rfl
theorem Fd.len {S R : Store} (h : Fd S R) : S.length = R.length + 1 := by obtain ⟨_, _, _, _, _, rfl⟩ := h; rfl
theorem Fd.app {S R : Store} (h : Fd S R) (o : Option OD) : Fd (S ++ [o]) (R ++ [o]) := by obtain ⟨c, a, l, k, hc, rfl⟩ := h; exact ⟨c, a, l, k, hc, rfl⟩
theorem Fd.set {S R : Store} (h : Fd S R) (n : Nat) (o : Option OD) : Fd (S.set (n + 1) o) (R.set n o) := by obtain ⟨c, a, l, k, hc, rfl⟩ := h; exact ⟨c, a, l, k, hc, rfl⟩
abbrev row (q : Str × D) : D := .tup [.str q.1, q.2]
abbrev emb (q : Str × D) : Key × D := (.inr q.1, q.2)
theorem pairsK_map : ∀ ps : List (Str × D), pairsK (ps.map row) = some (ps.map emb)
  | [] => rfl
  | p :: ps => by simp [pairsK, keyOf, pairsK_map ps]
theorem putD_mem {kvs : List (Key × D)} {k : Key} {d : D} {kv : Key × D} (h : kv ∈ putD kvs k d) : kv ∈ kvs ∨ kv = (k, d) := by
  unfold putD at h
  split at h
  · obtain ⟨x, hx, e⟩ := List.mem_map.mp h
    split at e
    · rename_i q; subst e; right; rw [q]
    · subst e; exact .inl hx
  · simpa using h
theorem putD_len (kvs : List (Key × D)) (k : Key) (d : D) : (putD kvs k d).length ≤ kvs.length + 1 := by
  unfold putD
  split <;> simp
theorem mergeD_mem : ∀ {more acc : List (Key × D)} {kv : Key × D}, kv ∈ mergeD acc more → kv ∈ acc ∨ kv ∈ more
  | [], _, _, h => .inl h
  | m :: more, acc, kv, h => by
    rcases mergeD_mem (more := more) (acc := putD acc m.1 m.2) h with h | h
    · rcases putD_mem h with h | h
      · exact .inl h
      · right; rw [h]; simp
    · right; exact List.mem_cons_of_mem _ h
theorem mergeD_len : ∀ (more acc : List (Key × D)), (mergeD acc more).length ≤ acc.length + more.length
  | [], _ => Nat.le_refl _
  | m :: more, acc => by
    have h1 := mergeD_len more (putD acc m.1 m.2)
    have h2 := putD_len acc m.1 m.2
    simp only [List.length_cons]
    show (mergeD (putD acc m.1 m.2) more).length ≤ _
    omega
theorem embs : ∀ {kvs : List (Key × D)}, (∀ kv ∈ kvs, ∃ x : Str, kv.1 = .inr x) → ∃ qs : List (Str × D), kvs = qs.map emb
  | [], _ => ⟨[], rfl⟩
  | (k, d) :: kvs, h => by
    obtain ⟨x, hx⟩ := h (k, d) (by simp)
    obtain ⟨qs, e⟩ := embs fun kv hkv => h kv (List.mem_cons_of_mem _ hkv)
    have hx : k = .inr x := hx
    subst hx
    exact ⟨(x, d) :: qs, by simp [e]⟩
theorem keysS_map : ∀ qs : List (Str × D), keysS (qs.map emb) = some (qs.map (·.1))
  | [] => rfl
  | q :: qs => by simp [keysS, keysS_map qs]
theorem valD_mem {qs : List (Str × D)} {x : Str} (h : x ∈ qs.map (·.1)) : ∃ d, valD (qs.map emb) (.inr x) = some d ∧ (x, d) ∈ qs := by
  induction qs with
  | nil => simp at h
  | cons q qs ih =>
    by_cases e : q.1 = x
    · refine ⟨q.2, ?_, ?_⟩
      · simp [valD, List.find?_cons, e]
      · rw [← e]; simp
    · obtain ⟨d, h1, h2⟩ := ih (by
        rcases List.mem_cons.mp h with z | z
        · exact absurd z.symm e
        · exact z)
      refine ⟨d, ?_, List.mem_cons_of_mem _ h2⟩
      have ne : ¬ ((.inr q.1 : Key) = .inr x) := fun z => e (Sum.inr.inj z)
      simp only [valD, List.map_cons, List.find?_cons, decide_eq_false ne] at h1 ⊢
      exact h1
theorem srt_mem {x : Str} {xs : List Str} (h : x ∈ srt xs) : x ∈ xs := (List.mergeSort_perm xs leS).mem_iff.mp h
theorem srt_len (xs : List Str) : (srt xs).length = xs.length := (List.mergeSort_perm xs leS).length_eq
theorem choose_map {α β : Type} {p : α → β → Prop} : ∀ {xs : List α}, (∀ x ∈ xs, ∃ y, p x y) → ∃ f : α → Option β, ∀ x ∈ xs, ∃ y, f x = some y ∧ p x y := by
  intro xs h
  classical
  refine ⟨fun x => if hx : ∃ y, p x y then some (Classical.choose hx) else none, fun x hx => ?_⟩
  have := h x hx
  exact ⟨Classical.choose this, dif_pos this, Classical.choose_spec this⟩
theorem ordered_ok {S R : Store} {n : Nat} {ps : List (Str × D)} (hF : Fd S R) (hn : R[n]? = some (some (.lst (ps.map row)))) (hl : ps.length < 64) :
    ∃ (qs : List (Str × D)) (o : Option OD), qs.length ≤ ps.length ∧ (∀ q ∈ qs, q ∈ ps) ∧ Fd (S ++ [o]) (R ++ [o]) ∧ g_law_ordered [.obj (n + 1)] S = .ok (.tup (qs.map row)) (S ++ [o]) := by
  have hS : S[n + 1]? = some (some (.lst (ps.map row))) := by rw [hF.get]; exact hn
  obtain ⟨qs, eq⟩ := embs (kvs := mergeD [] (ps.map emb)) fun kv hkv => by
    rcases mergeD_mem hkv with h | h
    · cases h
    · obtain ⟨p, _, rfl⟩ := List.mem_map.mp h; exact ⟨p.1, rfl⟩
  have hqs : ∀ q ∈ qs, q ∈ ps := fun q hq => by
    have : emb q ∈ mergeD [] (ps.map emb) := by rw [eq]; exact List.mem_map_of_mem hq
    rcases mergeD_mem this with h | h
    · cases h
    · obtain ⟨p, hp, e⟩ := List.mem_map.mp h
      have e1 : p.1 = q.1 := Sum.inr.inj (Prod.mk.inj e).1
      have e2 : p.2 = q.2 := (Prod.mk.inj e).2
      rw [← Prod.ext e1 e2]; exact hp
  have hql : qs.length ≤ ps.length := by
    have := mergeD_len (ps.map emb) []
    rw [eq] at this; simpa using this
  let o : Option OD := some (.dct (qs.map emb))
  let S1 : Store := S ++ [o]
  have hS1 : S1[S.length]? = some o := by simp [S1]
  let d1 : D := .obj (n + 1)
  let d2 : D := .obj S.length
  have s1 := set_ok (i := 1) (f := cal (cns (getv 0) (fun _ => pur [])) dictD) (env := [some d1, none, none]) (S := S) (S' := S1) (d := d2) ((cal1_ok (getv_ok rfl)).trans (by
    have z : seqL d1 S = .ok (ps.map row) S := by simp only [d1, seqL, seqM, hS]
    have z2 : dictD [d1] S = (bd (seqL d1) fun ds => bd (opt (pairsK ds)) fun kvs => mkO (.dct (mergeD [] kvs))) S := rfl
    rw [z2]
    simp only [bd, z, pairsK_map, opt, pur, eq, mkO]; rfl))
  have srtd : sortedD mkL [d2] S1 = .ok (.lst ((srt (qs.map (·.1))).map D.str)) S1 := by
    have hlen : (qs.map (·.1)).length < 64 := by rw [List.length_map]; omega
    simp only [sortedD, d2, hS1, o, keysS_map, opt, bd, pur, srtM, if_pos hlen]
    rw [mkL_ok]
    rw [List.length_map, srt_len]; exact sz _ (by omega)
  obtain ⟨f, hf⟩ := choose_map (p := fun (x : Str) (d : D) => valD (qs.map emb) (.inr x) = some d ∧ (x, d) ∈ qs) (xs := srt (qs.map (·.1))) fun x hx => valD_mem (srt_mem hx)
  let g : Str → Str × D := fun x => (x, (f x).getD .non)
  have hg : ∀ x ∈ srt (qs.map (·.1)), valD (qs.map emb) (.inr x) = some (g x).2 ∧ g x ∈ qs := fun x hx => by
    obtain ⟨d, e1, e2, e3⟩ := hf x hx
    have : g x = (x, d) := by simp [g, e1]
    rw [this]; exact ⟨e2, e3⟩
  have c2 : cmp [2] mkL (itf (cal (cns (getv 1) (fun _ => pur [])) (sortedD mkL))) (toN 2) (fun _ => pur true) (dsp mkT (cns (getv 2) (cns (bin dgetD (getv 1) (getv 2)) (fun _ => pur [])))) [some d1, some d2, none] S1 = .ok (.lst (((srt (qs.map (·.1))).map g).map row)) S1 := by
    rw [cmp_ok ((srt (qs.map (·.1))).map D.str) (fun _ => true) (fun d => row (g (sD d)))]
    · rw [List.filter_eq_self.mpr (by simp), List.map_map, List.map_map]; rfl
    · have := cal1_ok (f := getv 1) (g := sortedD mkL) (env := [some d1, some d2, none]) (S := S1) (getv_ok rfl)
      rw [srtd] at this
      simp only [itf, bd, this]; rfl
    · intro d hd
      obtain ⟨x, hx, rfl⟩ := List.mem_map.mp hd
      refine ⟨_, rfl, rfl, fun _ => ?_⟩
      have e1 := (hg x hx).1
      have e2 : (2 : Nat) ≤ sizeLine := by decide
      simp [Fx.bodyD, Fx.ent, Fx.seqS, Fx.ifS, Fx.ret, Fx.set, Fx.drop, Fx.asg, Fx.lft, Fx.bd, Fx.pur, Fx.opt, Fx.tst, Fx.asB, Fx.bin, Fx.getv, Fx.cns, Fx.cal, Fx.un, Fx.andV, Fx.orV, Fx.notV, Fx.andB, Fx.orB, Fx.notB, Fx.iteV, Fx.isi, Fx.tyM, Fx.isT, Fx.dsp, Fx.itf, Fx.itm, Fx.pass, Fx.ite_ap, toN, wipeE, dgetD, objK, d2, hS1, o, keyOf, e1, mkT, e2, sD, g]
    · rw [List.length_map, srt_len, List.length_map]; exact sz _ (by omega)
  refine ⟨(srt (qs.map (·.1))).map g, o, ?_, ?_, hF.app o, ?_⟩
  · rw [List.length_map, srt_len, List.length_map]; exact hql
  · intro q hq
    obtain ⟨x, hx, rfl⟩ := List.mem_map.mp hq
    exact hqs _ (hg x hx).2
  · refine body_rt (b := b_law_ordered) rfl ((seq_nx s1).trans (ret_okS ((cal1_ok c2).trans ?_)))
    simp only [tupleD, bd, seqL, seqM, pur]
    rw [mkT_ok]
    rw [List.length_map, List.length_map, srt_len, List.length_map]; exact sz _ (by omega)
end K03

end
/-! ## K03j -/
section
namespace K03
variable [Fx.Tabl]
open PySem Fx
open L2 (atI ixN Key)
theorem loop_st {t : D → Fx.Env → Option Fx.Env} {b : Fx.Env → MS} (Iv : Nat → Fx.Env → Store → Prop) (n : Nat) (q : D → Prop) : ∀ (ds : List D) (i : Nat) (env : Fx.Env) (S : Store), i + ds.length = n → (∀ d ∈ ds, q d) → Iv i env S →
    (∀ i < n, ∀ d, q d → ∀ env S, Iv i env S → ∃ env1, t d env = some env1 ∧ ∃ env2 S2, b env1 S = .ok (.nx env2) S2 ∧ Iv (i + 1) env2 S2) → ∃ env' S', loop t b ds env S = .ok (.nx env') S' ∧ Iv n env' S'
  | [], i, env, S, hi, _, h, _ => by
    have : i = n := by simpa using hi
    subst this
    exact ⟨env, S, rfl, h⟩
  | d :: ds, i, env, S, hi, hq, h, step => by
    obtain ⟨env1, h1, env2, S2, h2, h3⟩ := step i (by simp at hi; omega) d (hq d (by simp)) env S h
    obtain ⟨env', S', h4, h5⟩ := loop_st Iv n q ds (i + 1) env2 S2 (by simp at hi; omega) (fun d hd => hq d (List.mem_cons_of_mem _ hd)) h3 step
    refine ⟨env', S', ?_, h5⟩
    unfold loop
    simp only [h1, h2, h4]
theorem comp_st {t : D → Fx.Env → Option Fx.Env} {el : Fx.Env → M D} {env0 : Fx.Env} (Iv : Nat → Store → Prop) (n : Nat) (p : D → Prop) : ∀ (ds acc : List D) (i : Nat) (S : Store), i + ds.length = n → acc.length + ds.length ≤ sizeLine → Iv i S →
    (∀ i < n, ∀ d S, Iv i S → ∃ env1, t d env0 = some env1 ∧ ∃ y S2, el env1 S = .ok y S2 ∧ p y ∧ Iv (i + 1) S2) →
    ∃ ys S', compL mkL t (fun _ => pur true) el env0 ds acc S = .ok (.lst (acc ++ ys)) S' ∧ ys.length = ds.length ∧ (∀ y ∈ ys, p y) ∧ Iv n S'
  | [], acc, i, S, hi, hl, h, _ => by
    have : i = n := by simpa using hi
    subst this
    refine ⟨[], S, ?_, rfl, by simp, h⟩
    unfold compL
    rw [mkL_ok (by simpa using hl)]; simp
  | d :: ds, acc, i, S, hi, hl, h, step => by
    obtain ⟨env1, h1, y, S2, h2, h3, h4⟩ := step i (by simp at hi; omega) d S h
    obtain ⟨ys, S', k1, k2, k3, k4⟩ := comp_st Iv n p ds (acc ++ [y]) (i + 1) S2 (by simp at hi; omega) (by simp at hl ⊢; omega) h4 step
    refine ⟨y :: ys, S', ?_, by simp [k2], fun z hz => (List.mem_cons.mp hz).elim (fun e => e ▸ h3) (k3 z), k4⟩
    unfold compL
    have hl2 : acc.length < sizeLine := by simp at hl; omega
    simp only [h1, bdN, pur, if_true, h2, if_pos hl2, k1, List.append_assoc, List.singleton_append]
/-- the objects of R stand unchanged in R' -/
def Ext (R R' : Store) : Prop := R.length ≤ R'.length ∧ ∀ n < R.length, R'[n]? = R[n]?
theorem Ext.refl (R : Store) : Ext R R := ⟨Nat.le_refl _, fun _ _ => rfl⟩
theorem Ext.trans {A B C : Store} (h : Ext A B) (g : Ext B C) : Ext A C := ⟨Nat.le_trans h.1 g.1, fun n hn => (g.2 n (Nat.lt_of_lt_of_le hn h.1)).trans (h.2 n hn)⟩
theorem Ext.app (R : Store) (l : Store) : Ext R (R ++ l) := ⟨by simp, fun n hn => List.getElem?_append_left hn⟩
theorem Ext.set {R R' : Store} (h : Ext R R') {n : Nat} (hn : R.length ≤ n) (o : Option OD) : Ext R (R'.set n o) := ⟨by rw [List.length_set]; exact h.1, fun m hm => by rw [List.getElem?_set_ne (by omega)]; exact h.2 m hm⟩
theorem ixN_nat {k n : Nat} (h : k < n) : ixN n (k : Int) = some k := by
  unfold ixN
  rw [if_pos (by omega), if_pos (by omega)]; rfl
theorem pop_ok {i n : Nat} {env : Fx.Env} {S R : Store} {xs : List D} (h0 : env[0]? = some (some (.obj 0))) (hi : env[i]? = some (some (.obj (n + 1)))) (hF : Fd S R) (hR : R[n]? = some (some (.lst xs))) (hx : 0 < xs.length) (hx2 : xs.length < 1000) :
    ∃ (k : Nat) (S' : Store) (hk : k < xs.length), Fd S' (R.set n (some (.lst (xs.eraseIdx k)))) ∧ met (getv i) (cns (cal (cns (getv 0) (cns (cal (cns (getv i) (fun _ => pur [])) lenD) (fun _ => pur []))) g_law_draw) (fun _ => pur [])) popD env S = .ok xs[k] S' := by
  have hS : S[n + 1]? = some (some (.lst xs)) := by rw [hF.get]; exact hR
  obtain ⟨k, S1, hk, hF1, hd⟩ := drawn (i := 0) (env := env) (f := cal (cns (getv i) (fun _ => pur [])) lenD) (m := xs.length) h0 ((cal1_ok (getv_ok hi)).trans (by simp only [lenD, hS])) hx (by omega) hF
  have hS1 : S1[n + 1]? = some (some (.lst xs)) := by rw [hF1.get]; exact hR
  refine ⟨k, S1.set (n + 1) (some (.lst (xs.eraseIdx k))), hk, hF1.set _ _, ?_⟩
  have g1 : getv i env S = .ok (.obj (n + 1)) S := getv_ok hi
  have r1 : inR (k : Int) := inR_of (by omega) (by omega)
  simp only [met, bd, g1, objL, hS, cns, hd, pur, hS1, popD, ixN_nat hk, opt, List.getElem?_eq_getElem hk, if_pos r1, putL]
theorem appd_ok {i n : Nat} {env : Fx.Env} {S S1 R R1 : Store} {xs0 xs : List D} {e : Fx.Env → M D} {y : D} (hi : env[i]? = some (some (.obj (n + 1)))) (hF : Fd S R) (hR : R[n]? = some (some (.lst xs0))) (he : e env S = .ok y S1) (hF1 : Fd S1 R1) (hR1 : R1[n]? = some (some (.lst xs))) (hx : xs.length < 1000) :
    Fd (S1.set (n + 1) (some (.lst (xs ++ [y])))) (R1.set n (some (.lst (xs ++ [y])))) ∧ drop (met (getv i) (cns e (fun _ => pur [])) appD) env S = .ok (.nx env) (S1.set (n + 1) (some (.lst (xs ++ [y])))) := by
  have hS : S[n + 1]? = some (some (.lst xs0)) := by rw [hF.get]; exact hR
  have hS1 : S1[n + 1]? = some (some (.lst xs)) := by rw [hF1.get]; exact hR1
  refine ⟨hF1.set _ _, ?_⟩
  have g1 : getv i env S = .ok (.obj (n + 1)) S := getv_ok hi
  have hl : xs.length < sizeLine := Nat.lt_trans hx (by decide)
  simp only [drop, lft, met, bd, g1, objL, hS, cns, he, pur, hS1, appD, if_pos hl, putL]
theorem extd_ok {i n : Nat} {env : Fx.Env} {S S1 R R1 : Store} {xs0 xs ys : List D} {e : Fx.Env → M D} (hi : env[i]? = some (some (.obj (n + 1)))) (hF : Fd S R) (hR : R[n]? = some (some (.lst xs0))) (he : e env S = .ok (.lst ys) S1) (hF1 : Fd S1 R1) (hR1 : R1[n]? = some (some (.lst xs))) (hx : xs.length + ys.length ≤ 1000000) :
    Fd (S1.set (n + 1) (some (.lst (xs ++ ys)))) (R1.set n (some (.lst (xs ++ ys)))) ∧ drop (met (getv i) (cns e (fun _ => pur [])) extD) env S = .ok (.nx env) (S1.set (n + 1) (some (.lst (xs ++ ys)))) := by
  have hS : S[n + 1]? = some (some (.lst xs0)) := by rw [hF.get]; exact hR
  have hS1 : S1[n + 1]? = some (some (.lst xs)) := by rw [hF1.get]; exact hR1
  refine ⟨hF1.set _ _, ?_⟩
  have g1 : getv i env S = .ok (.obj (n + 1)) S := getv_ok hi
  have hl : xs.length + ys.length ≤ sizeLine := Nat.le_trans hx (by decide)
  simp only [drop, lft, met, bd, g1, objL, hS, cns, he, pur, hS1, extD, seqM, if_pos hl, putL]
def okN (x : Str) : Prop := (∀ c ∈ x.cps.toList, c < 128) ∧ x.length ≤ 8
theorem okN_list {l : List Str} (h : (l.all fun x => x.cps.all (· < 128) && decide (x.length ≤ 8)) = true) : ∀ x ∈ l, okN x := fun x hx => by
  have := List.all_eq_true.mp h x hx
  simp only [Bool.and_eq_true, decide_eq_true_eq] at this
  exact ⟨all_lt.mp this.1, this.2⟩
def SortOk (d : D) : Prop := (∃ l h : Int, d = .tup [.int l, .int h] ∧ l.natAbs ≤ 1000 ∧ 0 ≤ h - l ∧ h - l ≤ 9) ∨ ∃ x, d = .str x ∧ okN x
theorem okN.sort {x : Str} (h : okN x) : SortOk (.str x) := .inr ⟨x, rfl, h⟩
theorem SortOk.inn {d : D} (h : SortOk d) : In 2000 30 1 d := by
  rcases h with ⟨l, h, rfl, h1, h2, h3⟩ | ⟨x, rfl, h⟩
  · refine In.tup (P := 0) (fun d hd => ?_) ?_
    · simp only [List.mem_cons, List.not_mem_nil, or_false] at hd
      rcases hd with rfl | rfl
      · exact ⟨by simp [gd]; omega, Nat.le_refl _⟩
      · exact ⟨by simp [gd]; omega, Nat.le_refl _⟩
    · rw [sw_cons, sw_cons, sw_nil]
      have h1 := wgt_int (i := l) (k := 10) (by omega)
      have h2 := wgt_int (i := h) (k := 10) (by omega)
      omega
  · exact .str h.1 (by have := h.2; omega)
/-- a list of the store that holds texts -/
def Strs (R : Store) (n k : Nat) : Prop := ∃ xs : List Str, xs.length = k ∧ (∀ x ∈ xs, okN x) ∧ R[n]? = some (some (.lst (xs.map .str)))
theorem Strs.pop {i n k : Nat} {env : Fx.Env} {S R : Store} (h0 : env[0]? = some (some (.obj 0))) (hi : env[i]? = some (some (.obj (n + 1)))) (hF : Fd S R) (h : Strs R n (k + 1)) (hk : k < 100) :
    ∃ (x : Str) (S' : Store) (o : Option OD), okN x ∧ Fd S' (R.set n o) ∧ Strs (R.set n o) n k ∧ met (getv i) (cns (cal (cns (getv 0) (cns (cal (cns (getv i) (fun _ => pur [])) lenD) (fun _ => pur []))) g_law_draw) (fun _ => pur [])) popD env S = .ok (.str x) S' := by
  obtain ⟨xs, hl, hx, hR⟩ := h
  obtain ⟨j, S', hj, h1, h2⟩ := pop_ok h0 hi hF hR (by simp; omega) (by simp; omega)
  have hj' : j < xs.length := by simpa using hj
  refine ⟨xs[j], S', _, hx _ (List.getElem_mem _), h1, ⟨xs.eraseIdx j, ?_, fun x hx' => hx x (List.mem_of_mem_eraseIdx hx'), ?_⟩, ?_⟩
  · rw [List.length_eraseIdx, if_pos hj']; omega
  · rw [List.getElem?_set_self (Fx.lt_of_some hR)]; simp [List.eraseIdx_eq_take_drop_succ, List.map_take, List.map_drop]
  · rw [h2]; simp
theorem Strs.set_ne {R : Store} {n m k : Nat} {o : Option OD} (h : Strs R n k) (hne : m ≠ n) : Strs (R.set m o) n k := by
  obtain ⟨xs, h1, h2, h3⟩ := h
  exact ⟨xs, h1, h2, by rw [List.getElem?_set_ne hne]; exact h3⟩
/-- pairs of a text and a sort, in the list at n -/
def Prs (R : Store) (n k : Nat) : Prop := ∃ ps : List (Str × D), ps.length = k ∧ (∀ p ∈ ps, okN p.1 ∧ SortOk p.2) ∧ R[n]? = some (some (.lst (ps.map row)))
def lowL : List D := [.int 0, .int 0, .int (-3), .int 5, .int (-1000), .int 990]
def addL : List D := [.int 0, .int 1, .int 3, .int 9]
theorem lowL_in : ∀ d ∈ lowL, ∃ i : Int, d = .int i ∧ i.natAbs ≤ 1000 := by
  intro d hd
  simp only [lowL, List.mem_cons, List.not_mem_nil, or_false] at hd
  rcases hd with rfl | rfl | rfl | rfl | rfl | rfl <;> exact ⟨_, rfl, by decide⟩
theorem addL_in : ∀ d ∈ addL, ∃ i : Int, d = .int i ∧ i.natAbs ≤ 9 ∧ 0 ≤ i := by
  intro d hd
  simp only [addL, List.mem_cons, List.not_mem_nil, or_false] at hd
  rcases hd with rfl | rfl | rfl | rfl <;> exact ⟨_, rfl, by decide, by decide⟩
def inner : Fx.Env → MS := (seqS (Fx.set 8 (met (getv 6) (cns (cal (cns (getv 0) (cns (cal (cns (getv 6) (fun _ => pur [])) lenD) (fun _ => pur []))) g_law_draw) (fun _ => pur [])) popD))
  (seqS (Fx.set 9 (bin ixD (dsp mkL (cns (fun _ => pur (.int 0)) (cns (fun _ => pur (.int 0)) (cns (un negD (fun _ => pur (.int 3))) (cns (fun _ => pur (.int 5)) (cns (un negD (fun _ => pur (.int 1000))) (cns (fun _ => pur (.int 990)) (fun _ => pur [])))))))) (cal (cns (getv 0) (cns (fun _ => pur (.int 6)) (fun _ => pur []))) g_law_draw)))
  (seqS (Fx.set 10 (dsp mkT (cns (getv 9) (cns (bin (addD mkL) (getv 9) (bin ixD (dsp mkL (cns (fun _ => pur (.int 0)) (cns (fun _ => pur (.int 1)) (cns (fun _ => pur (.int 3)) (cns (fun _ => pur (.int 9)) (fun _ => pur [])))))) (cal (cns (getv 0) (cns (fun _ => pur (.int 4)) (fun _ => pur []))) g_law_draw))) (fun _ => pur [])))))
  (seqS (ifS (tst (bin eqD (cal (cns (getv 0) (cns (fun _ => pur (.int 2)) (fun _ => pur []))) g_law_draw) (fun _ => pur (.int 0)))) (Fx.set 10 (bin ixD (getv 3) (cal (cns (getv 0) (cns (cal (cns (getv 3) (fun _ => pur [])) lenD) (fun _ => pur []))) g_law_draw))) pass)
  (drop (met (getv 7) (cns (dsp mkT (cns (getv 8) (cns (getv 10) (fun _ => pur [])))) (fun _ => pur [])) appD))))))
section
variable {p q : Nat} {names : List Str}
/-- the slots of _law_schema -/
abbrev env11 (a b : D) (ns : List Str) (k : Option D) (title : D) (sl en : D) (z8 z9 z10 : Option D) : Fx.Env := [some (.obj 0), some a, some b, some (.lst (ns.map D.str)), k, some title, some sl, some en, z8, z9, z10]
theorem inner_ok {m j : Nat} {a b title : D} {k z8 z9 z10 : Option D} {S R R0 : Store} (hF : Fd S R) (hE : Ext R0 R) (hm : R0.length ≤ m) (hs : Strs R m (6 - j + 1)) (he : Prs R (m + 1) j) (hj : j < 5) (hns : ∀ x ∈ names, okN x) (hn0 : 0 < names.length) (hn3 : names.length ≤ 3) :
    ∃ z8' z9' z10' S' R', inner (env11 a b names k title (.obj (m + 1)) (.obj (m + 1 + 1)) z8 z9 z10) S = .ok (.nx (env11 a b names k title (.obj (m + 1)) (.obj (m + 1 + 1)) z8' z9' z10')) S' ∧ Fd S' R' ∧ Ext R0 R' ∧ Strs R' m (6 - j) ∧ Prs R' (m + 1) (j + 1) := by
  -- the slot
  obtain ⟨x, S1, o, hx, hF1, hs1, e1⟩ := Strs.pop (i := 6) (env := env11 a b names k title (.obj (m + 1)) (.obj (m + 1 + 1)) z8 z9 z10) rfl rfl hF hs (by omega)
  have hE1 : Ext R0 (R.set m o) := hE.set hm o
  have he1 : Prs (R.set m o) (m + 1) j := by
    obtain ⟨ps, h1, h2, h3⟩ := he
    exact ⟨ps, h1, h2, by rw [List.getElem?_set_ne (by omega)]; exact h3⟩
  generalize R.set m o = R1 at hF1 hs1 hE1 he1
  have s1 := set_ok (i := 8) e1
  -- low
  obtain ⟨r, S2, hr, hF2, e2⟩ := drawn (i := 0) (env := env11 a b names k title (.obj (m + 1)) (.obj (m + 1 + 1)) (some (.str x)) z9 z10) (f := fun _ => pur (.int 6)) (m := 6) rfl rfl (by decide) (by decide) hF1
  have hr' : r < lowL.length := hr
  obtain ⟨lo, elo, hlo⟩ := lowL_in lowL[r] (List.getElem_mem _)
  have s2 := set_ok (i := 9) ((bin_okS (g := ixD) (f1 := (dsp mkL (cns (fun _ => pur (.int 0)) (cns (fun _ => pur (.int 0)) (cns (un negD (fun _ => pur (.int 3))) (cns (fun _ => pur (.int 5)) (cns (un negD (fun _ => pur (.int 1000))) (cns (fun _ => pur (.int 990)) (fun _ => pur []))))))))) (a := .lst lowL) (S1 := S1) rfl e2).trans (ix_nat hr'))
  rw [elo] at s2
  -- the range
  obtain ⟨r2, S3, hr2, hF3, e3⟩ := drawn (i := 0) (env := env11 a b names k title (.obj (m + 1)) (.obj (m + 1 + 1)) (some (.str x)) (some (.int lo)) z10) (f := fun _ => pur (.int 4)) (m := 4) rfl rfl (by decide) (by decide) hF2
  have hr2' : r2 < addL.length := hr2
  obtain ⟨ad, ead, had, had0⟩ := addL_in addL[r2] (List.getElem_mem _)
  have t3 := (bin_okS (g := ixD) (f1 := (dsp mkL (cns (fun _ => pur (.int 0)) (cns (fun _ => pur (.int 1)) (cns (fun _ => pur (.int 3)) (cns (fun _ => pur (.int 9)) (fun _ => pur []))))))) (a := .lst addL) (S1 := S2) rfl e3).trans (ix_nat hr2')
  rw [ead] at t3
  let rg : D := .tup [.int lo, .int (lo + ad)]
  have hrg : SortOk rg := .inl ⟨lo, lo + ad, rfl, hlo, by omega, by omega⟩
  have s3 := set_ok (i := 10) (f := (dsp mkT (cns (getv 9) (cns (bin (addD mkL) (getv 9) (bin ixD (dsp mkL (cns (fun _ => pur (.int 0)) (cns (fun _ => pur (.int 1)) (cns (fun _ => pur (.int 3)) (cns (fun _ => pur (.int 9)) (fun _ => pur [])))))) (cal (cns (getv 0) (cns (fun _ => pur (.int 4)) (fun _ => pur []))) g_law_draw))) (fun _ => pur []))))) (env := env11 a b names k title (.obj (m + 1)) (.obj (m + 1 + 1)) (some (.str x)) (some (.int lo)) z10) (S := S2) (S' := S3) (d := rg) (by
    have g9 : ∀ T : Store, getv 9 (env11 a b names k title (.obj (m + 1)) (.obj (m + 1 + 1)) (some (.str x)) (some (.int lo)) z10) T = .ok (.int lo) T := fun T => getv_ok rfl
    have t4 := (bin_okS (g := addD mkL) (g9 S2) t3).trans addi_ok
    simp only [dsp, cns, bd, g9, t4, pur]
    rw [mkT_ok (sz _ (by show 2 ≤ 300000; decide))])
  -- a link?
  obtain ⟨r4, S4, hr4, hF4, e4⟩ := drawn (i := 0) (env := env11 a b names k title (.obj (m + 1)) (.obj (m + 1 + 1)) (some (.str x)) (some (.int lo)) (some rg)) (f := fun _ => pur (.int 2)) (m := 2) rfl rfl (by decide) (by decide) hF3
  have c4 := tst_ok ((bin_okS (g := eqD) (f2 := fun _ => pur (.int 0)) e4 rfl).trans (eqD_int _ _ _))
  obtain ⟨sort, S5, hsort, hF5, e5⟩ : ∃ sort S5, SortOk sort ∧ Fd S5 R1 ∧ ifS (tst (bin eqD (cal (cns (getv 0) (cns (fun _ => pur (.int 2)) (fun _ => pur []))) g_law_draw) (fun _ => pur (.int 0)))) (Fx.set 10 (bin ixD (getv 3) (cal (cns (getv 0) (cns (cal (cns (getv 3) (fun _ => pur [])) lenD) (fun _ => pur []))) g_law_draw))) pass
      (env11 a b names k title (.obj (m + 1)) (.obj (m + 1 + 1)) (some (.str x)) (some (.int lo)) (some rg)) S3 = .ok (.nx (env11 a b names k title (.obj (m + 1)) (.obj (m + 1 + 1)) (some (.str x)) (some (.int lo)) (some sort))) S5 := by
    cases hz : ((r4 : Int) == 0) with
    | false =>
      rw [hz] at c4
      exact ⟨rg, S4, hrg, hF4, (ifS_f c4).trans rfl⟩
    | true =>
      rw [hz] at c4
      obtain ⟨r5, S5, hr5, hF5, e5⟩ := drawn (i := 0) (env := env11 a b names k title (.obj (m + 1)) (.obj (m + 1 + 1)) (some (.str x)) (some (.int lo)) (some rg)) (f := cal (cns (getv 3) (fun _ => pur [])) lenD) (m := names.length) rfl ((cal1_ok (getv_ok rfl)).trans (by rw [len_lst, List.length_map])) hn0 (by omega) hF4
      have hr5' : r5 < (names.map D.str).length := by simpa using hr5
      have s5 := set_ok (i := 10) ((bin_okS (g := ixD) (f1 := getv 3) (S1 := S4) (getv_ok rfl) e5).trans (ix_nat hr5'))
      refine ⟨_, S5, ?_, hF5, (ifS_t c4).trans s5⟩
      rw [List.getElem_map]
      exact (hns _ (List.getElem_mem _)).sort
  -- the entry
  obtain ⟨ps, hp1, hp2, hp3⟩ := he1
  obtain ⟨hF6, e6⟩ := appd_ok (i := 7) (n := m + 1) (env := env11 a b names k title (.obj (m + 1)) (.obj (m + 1 + 1)) (some (.str x)) (some (.int lo)) (some sort)) (e := dsp mkT (cns (getv 8) (cns (getv 10) (fun _ => pur [])))) (y := row (x, sort)) rfl hF5 hp3 (by
    have g8 : getv 8 (env11 a b names k title (.obj (m + 1)) (.obj (m + 1 + 1)) (some (.str x)) (some (.int lo)) (some sort)) S5 = .ok (.str x) S5 := getv_ok rfl
    have g10 : getv 10 (env11 a b names k title (.obj (m + 1)) (.obj (m + 1 + 1)) (some (.str x)) (some (.int lo)) (some sort)) S5 = .ok sort S5 := getv_ok rfl
    simp only [dsp, cns, bd, g8, g10, pur]
    rw [mkT_ok (sz _ (by show 2 ≤ 300000; decide))]) hF5 hp3 (by simp; omega)
  refine ⟨_, _, _, _, _, (seq_nx s1).trans ((seq_nx s2).trans ((seq_nx s3).trans ((seq_nx e5).trans e6))), hF6, hE1.set (by omega) _, hs1.set_ne (by omega), ⟨ps ++ [(x, sort)], by simp [hp1], fun y hy => ?_, ?_⟩⟩
  · rcases List.mem_append.mp hy with h | h
    · exact hp2 y h
    · rw [List.mem_singleton.mp h]; exact ⟨hx, hsort⟩
  · rw [List.getElem?_set_self (Fx.lt_of_some hp3), List.map_append]; rfl
end
abbrev Form : Type := Str × List (Str × D)
abbrev frow (f : Form) : D := .tup [.str f.1, .tup (f.2.map row)]
structure FormOk (f : Form) : Prop where
  n : okN f.1
  l : f.2.length ≤ 4
  e : ∀ q ∈ f.2, okN q.1 ∧ SortOk q.2
def Frs (R : Store) (p k : Nat) : Prop := ∃ fs : List Form, fs.length = k ∧ (∀ f ∈ fs, FormOk f) ∧ R[p]? = some (some (.lst (fs.map frow)))
theorem mkN_ok {f : Fx.Env → M (List D)} {env : Fx.Env} {S : Store} {ds : List D} (h : f env S = .ok ds S) (hl : ds.length ≤ sizeLine) : dsp mkN f env S = .ok (.obj S.length) (S ++ [some (.lst ds)]) := by
  simp only [dsp, bd, h, mkN, if_pos hl, mkO]
def slotL : List Str := ["a", "if", "lid", "none", "of", "size", "x"]
theorem slot_ok : ∀ x ∈ slotL, okN x := okN_list (by decide +kernel)
def outer : Fx.Env → MS := (seqS (par 6 7 (cns (dsp mkN (cns (fun _ => pur (.str "a")) (cns (fun _ => pur (.str "if")) (cns (fun _ => pur (.str "lid")) (cns (fun _ => pur (.str "none")) (cns (fun _ => pur (.str "of")) (cns (fun _ => pur (.str "size")) (cns (fun _ => pur (.str "x")) (fun _ => pur []))))))))) (cns (dsp mkN (fun _ => pur [])) (fun _ => pur []))))
  (seqS (forS (itr1 (cns (cal (cns (getv 0) (cns (fun _ => pur (.int 5)) (fun _ => pur []))) g_law_draw) (fun _ => pur []))) (toN 4) inner)
  (drop (met (getv 2) (cns (dsp mkT (cns (getv 5) (cns (cal (cns (getv 7) (fun _ => pur [])) g_law_ordered) (fun _ => pur [])))) (fun _ => pur [])) appD))))
section
variable {names : List Str}
abbrev envO (a b : D) (ns : List Str) (k t sl en z8 z9 z10 : Option D) : Fx.Env := [some (.obj 0), some a, some b, some (.lst (ns.map D.str)), k, t, sl, en, z8, z9, z10]
theorem outer_ok {p j : Nat} {a : D} {title : Str} {k sl en z8 z9 z10 : Option D} {S R R0 : Store} (hF : Fd S R) (hE : Ext R0 R) (hp : R0.length ≤ p) (hf : Frs R p j) (hj : j < 10) (ht : okN title) (hns : ∀ x ∈ names, okN x) (hn0 : 0 < names.length) (hn3 : names.length ≤ 3) :
    ∃ k' sl' en' z8' z9' z10' S' R', outer (envO a (.obj (p + 1)) names k (some (.str title)) sl en z8 z9 z10) S = .ok (.nx (envO a (.obj (p + 1)) names k' (some (.str title)) sl' en' z8' z9' z10')) S' ∧ Fd S' R' ∧ Ext R0 R' ∧ Frs R' p (j + 1) := by
  obtain ⟨fs, hf1, hf2, hf3⟩ := hf
  have hpR : p < R.length := Fx.lt_of_some hf3
  let m := R.length
  let e0 : Fx.Env := envO a (.obj (p + 1)) names k (some (.str title)) sl en z8 z9 z10
  let S1 : Store := S ++ [some (.lst (slotL.map .str))]
  let R1 : Store := R ++ [some (.lst (slotL.map .str))]
  have hF1 : Fd S1 R1 := hF.app _
  let S2 : Store := S1 ++ [some (.lst [])]
  let R2 : Store := R1 ++ [some (.lst [])]
  have hF2 : Fd S2 R2 := hF1.app _
  have l1 : S.length = m + 1 := hF.len
  have l2 : S1.length = m + 1 + 1 := by rw [hF1.len]; simp [R1, m]
  have a1 : dsp mkN (cns (fun _ => pur (.str "a")) (cns (fun _ => pur (.str "if")) (cns (fun _ => pur (.str "lid")) (cns (fun _ => pur (.str "none")) (cns (fun _ => pur (.str "of")) (cns (fun _ => pur (.str "size")) (cns (fun _ => pur (.str "x")) (fun _ => pur [])))))))) e0 S = .ok (.obj (m + 1)) S1 := by
    rw [mkN_ok (ds := slotL.map .str) rfl (sz _ (by decide)), l1]
  have a2 : dsp mkN (fun _ => pur []) e0 S1 = .ok (.obj (m + 1 + 1)) S2 := by
    rw [mkN_ok (ds := []) rfl (sz _ (by decide)), l2]
  let e1 : Fx.Env := env11 a (.obj (p + 1)) names k (.str title) (.obj (m + 1)) (.obj (m + 1 + 1)) z8 z9 z10
  have s1 : par 6 7 (cns (dsp mkN (cns (fun _ => pur (.str "a")) (cns (fun _ => pur (.str "if")) (cns (fun _ => pur (.str "lid")) (cns (fun _ => pur (.str "none")) (cns (fun _ => pur (.str "of")) (cns (fun _ => pur (.str "size")) (cns (fun _ => pur (.str "x")) (fun _ => pur []))))))))) (cns (dsp mkN (fun _ => pur [])) (fun _ => pur []))) e0 S = .ok (.nx e1) S2 := by
    simp only [par, lft, cns, bd, a1, a2, pur]; rfl
  obtain ⟨r, S3, hr, hF3, e3⟩ := drawn (i := 0) (env := e1) (f := fun _ => pur (.int 5)) (m := 5) rfl rfl (by decide) (by decide) hF2
  have i3 : itr1 (cns (cal (cns (getv 0) (cns (fun _ => pur (.int 5)) (fun _ => pur []))) g_law_draw) (fun _ => pur [])) e1 S2 = .ok (rng 0 r) S3 := by
    have c : cns (cal (cns (getv 0) (cns (fun _ => pur (.int 5)) (fun _ => pur []))) g_law_draw) (fun _ => pur []) e1 S2 = .ok [.int r] S3 := by simp only [cns, bd, e3, pur]
    simp only [itr1, bd, c, rng1_ok (inR_of (show -1000000000 ≤ (r : Int) by omega) (by omega))]
  have hrl : (rng 0 (r : Int)).length = r := by simp [rng]
  -- the entries
  have hE2 : Ext R R2 := (Ext.app R _).trans (Ext.app _ _)
  obtain ⟨env4, S4, e4, k4, z8', z9', z10', R4, rfl, hF4, hE4, hs4, hp4⟩ := loop_st (t := toN 4) (b := inner) (fun i env S => ∃ k z8 z9 z10 Rc, env = env11 a (.obj (p + 1)) names k (.str title) (.obj (m + 1)) (.obj (m + 1 + 1)) z8 z9 z10 ∧ Fd S Rc ∧ Ext R Rc ∧ Strs Rc m (7 - i) ∧ Prs Rc (m + 1) i) r (fun _ => True) (rng 0 r) 0 e1 S3 (by rw [hrl]; omega) (fun _ _ => trivial)
    ⟨_, _, _, _, R2, rfl, hF3, hE2, ⟨slotL, rfl, slot_ok, by simp [R2, R1, m]⟩, ⟨[], rfl, by simp, by simp [R2, R1, m]⟩⟩ (by
      rintro i hi d _ env S ⟨k, z8, z9, z10, Rc, rfl, hF, hEc, hs, he⟩
      refine ⟨_, rfl, ?_⟩
      obtain ⟨z8', z9', z10', S', R', h1, h2, h3, h4, h5⟩ := inner_ok (R0 := R) (k := some d) (a := a) (b := .obj (p + 1)) (title := .str title) (z8 := z8) (z9 := z9) (z10 := z10) hF hEc (Nat.le_refl m) (by rw [show 6 - i + 1 = 7 - i by omega]; exact hs) he (by omega) hns hn0 hn3
      exact ⟨_, S', h1, _, _, _, _, R', rfl, h2, h3, by rw [show 7 - (i + 1) = 6 - i by omega]; exact h4, h5⟩)
  -- the form
  obtain ⟨ps, hq1, hq2, hq3⟩ := hp4
  obtain ⟨qs, o, g1, g2, g3, g4⟩ := ordered_ok hF4 hq3 (by omega)
  have hf4 : R4[p]? = some (some (.lst (fs.map frow))) := (hE4.2 p hpR).trans hf3
  have hf5 : (R4 ++ [o])[p]? = some (some (.lst (fs.map frow))) := by rw [List.getElem?_append_left (Fx.lt_of_some hf4)]; exact hf4
  let e5 : Fx.Env := env11 a (.obj (p + 1)) names k4 (.str title) (.obj (m + 1)) (.obj (m + 1 + 1)) z8' z9' z10'
  obtain ⟨hF6, e6⟩ := appd_ok (i := 2) (n := p) (env := e5) (e := dsp mkT (cns (getv 5) (cns (cal (cns (getv 7) (fun _ => pur [])) g_law_ordered) (fun _ => pur [])))) (y := frow (title, qs)) rfl hF4 hf4 (by
    have g5 : getv 5 e5 S4 = .ok (.str title) S4 := getv_ok rfl
    have g7 : cal (cns (getv 7) (fun _ => pur [])) g_law_ordered e5 S4 = .ok (.tup (qs.map row)) (S4 ++ [o]) := (cal1_ok (getv_ok rfl)).trans g4
    simp only [dsp, cns, bd, g5, g7, pur]
    rw [mkT_ok (sz _ (by show 2 ≤ 300000; decide))]) g3 hf5 (by simp; omega)
  refine ⟨k4, _, _, z8', z9', z10', _, _, (seq_nx s1).trans ((seq_nx (((for_ok i3)).trans e4)).trans e6), hF6, ?_, ⟨fs ++ [(title, qs)], by simp [hf1], fun f hf => ?_, ?_⟩⟩
  · exact Ext.set (hE.trans (hE4.trans (Ext.app _ _))) hp _
  · rcases List.mem_append.mp hf with h | h
    · exact hf2 f h
    · rw [List.mem_singleton.mp h]; exact ⟨ht, by show qs.length ≤ 4; omega, fun q hq => hq2 q (g2 q hq)⟩
  · rw [List.getElem?_set_self (Fx.lt_of_some hf5), List.map_append]; rfl
theorem cal1_okS {f : Fx.Env → M D} {g : List D → M D} {env : Fx.Env} {S S1 : Store} {a : D} (h : f env S = .ok a S1) : cal (cns f (fun _ => pur [])) g env S = g [a] S1 := by
  simp only [cal, cns, bd, h, pur]
def poolL : List Str := ["a", "box", "get", "lid", "zzzzzzzz"]
theorem pool_ok : ∀ x ∈ poolL, okN x := okN_list (by decide +kernel)
theorem strsOf_mem : ∀ {ys : List D}, (∀ y ∈ ys, ∃ x, y = .str x ∧ okN x) → ∃ xs : List Str, ys = xs.map .str ∧ ∀ x ∈ xs, okN x
  | [], _ => ⟨[], rfl, by simp⟩
  | y :: ys, h => by
    obtain ⟨x, rfl, hx⟩ := h y (by simp)
    obtain ⟨xs, rfl, hxs⟩ := strsOf_mem fun y hy => h y (List.mem_cons_of_mem _ hy)
    exact ⟨x :: xs, rfl, fun z hz => (List.mem_cons.mp hz).elim (fun e => e ▸ hx) (hxs z)⟩
theorem schema_ok {S R : Store} (hF : Fd S R) : ∃ (fs : List Form) (S' R' : Store), 1 ≤ fs.length ∧ fs.length ≤ 3 ∧ (∀ f ∈ fs, FormOk f) ∧ Fd S' R' ∧ Ext R R' ∧ g_law_schema [.obj 0] S = .ok (.tup (fs.map frow)) S' := by
  let p := R.length
  let S1 : Store := S ++ [some (.lst (poolL.map .str))]
  let R1 : Store := R ++ [some (.lst (poolL.map .str))]
  have hF1 : Fd S1 R1 := hF.app _
  let S2 : Store := S1 ++ [some (.lst [])]
  let R2 : Store := R1 ++ [some (.lst [])]
  have hF2 : Fd S2 R2 := hF1.app _
  have l1 : S.length = p + 1 := hF.len
  have l2 : S1.length = p + 1 + 1 := by rw [hF1.len]; simp [R1, p]
  let e0 : Fx.Env := [some (.obj 0), none, none, none, none, none, none, none, none, none, none]
  have a1 : dsp mkN (cns (fun _ => pur (.str "a")) (cns (fun _ => pur (.str "box")) (cns (fun _ => pur (.str "get")) (cns (fun _ => pur (.str "lid")) (cns (fun _ => pur (.str "zzzzzzzz")) (fun _ => pur [])))))) e0 S = .ok (.obj (p + 1)) S1 := by
    rw [mkN_ok (ds := poolL.map .str) rfl (sz _ (by decide)), l1]
  have a2 : dsp mkN (fun _ => pur []) e0 S1 = .ok (.obj (p + 1 + 1)) S2 := by
    rw [mkN_ok (ds := []) rfl (sz _ (by decide)), l2]
  let e1 : Fx.Env := [some (.obj 0), some (.obj (p + 1)), some (.obj (p + 1 + 1)), none, none, none, none, none, none, none, none]
  have s1 : asg (dsp mkT (cns (dsp mkN (cns (fun _ => pur (.str "a")) (cns (fun _ => pur (.str "box")) (cns (fun _ => pur (.str "get")) (cns (fun _ => pur (.str "lid")) (cns (fun _ => pur (.str "zzzzzzzz")) (fun _ => pur []))))))) (cns (dsp mkN (fun _ => pur [])) (fun _ => pur [])))) (toTup (toCons (toN 1) (toCons (toN 2) toNil))) e0 S = .ok (.nx e1) S2 := by
    have : dsp mkT (cns (dsp mkN (cns (fun _ => pur (.str "a")) (cns (fun _ => pur (.str "box")) (cns (fun _ => pur (.str "get")) (cns (fun _ => pur (.str "lid")) (cns (fun _ => pur (.str "zzzzzzzz")) (fun _ => pur []))))))) (cns (dsp mkN (fun _ => pur [])) (fun _ => pur []))) e0 S = .ok (.tup [.obj (p + 1), .obj (p + 1 + 1)]) S2 := by
      rw [dsp]
      simp only [bd, cns, a1, a2, pur]
      rw [mkT_ok (sz _ (by show 2 ≤ 300000; decide))]
    simp only [asg, lft, this]; rfl
  -- the names
  obtain ⟨r, S3, hr, hF3, e3⟩ := drawn (i := 0) (env := e1) (f := fun _ => pur (.int 3)) (m := 3) rfl rfl (by decide) (by decide) hF2
  have i3 : itr1 (cns (bin (addD mkL) (fun _ => pur (.int 1)) (cal (cns (getv 0) (cns (fun _ => pur (.int 3)) (fun _ => pur []))) g_law_draw)) (fun _ => pur [])) e1 S2 = .ok (rng 0 (1 + r)) S3 := by
    have b := (bin_okS (g := addD mkL) (f1 := fun _ => pur (.int 1)) (a := .int 1) (S1 := S2) rfl e3).trans addi_ok
    have c : cns (bin (addD mkL) (fun _ => pur (.int 1)) (cal (cns (getv 0) (cns (fun _ => pur (.int 3)) (fun _ => pur []))) g_law_draw)) (fun _ => pur []) e1 S2 = .ok [.int (1 + r)] S3 := by simp only [cns, bd, b, pur]
    simp only [itr1, bd, c, rng1_ok (inR_of (show -1000000000 ≤ 1 + (r : Int) by omega) (by omega))]
  have hrl : (rng 0 (1 + (r : Int))).length = 1 + r := by simp [rng]; omega
  obtain ⟨ys, S4, e4, hy1, hy2, R4, hF4, hE4, hs4, hf4⟩ := comp_st (t := toN 4) (el := met (getv 1) (cns (cal (cns (getv 0) (cns (cal (cns (getv 1) (fun _ => pur [])) lenD) (fun _ => pur []))) g_law_draw) (fun _ => pur [])) popD) (env0 := e1)
    (fun i S => ∃ Rc, Fd S Rc ∧ Ext R Rc ∧ Strs Rc p (5 - i) ∧ Frs Rc (p + 1) 0) (1 + r) (fun y => ∃ x, y = .str x ∧ okN x) (rng 0 (1 + r)) [] 0 S3 (by rw [hrl]; omega) (by rw [hrl]; exact sz _ (by simp; omega))
    ⟨R2, hF3, (Ext.app R _).trans (Ext.app _ _), ⟨poolL, rfl, pool_ok, by simp [R2, R1, p]⟩, ⟨[], rfl, by simp, by simp [R2, R1, p]⟩⟩ (by
      rintro i hi d S ⟨Rc, hF, hE, hs, hf⟩
      refine ⟨_, rfl, ?_⟩
      obtain ⟨x, S', o, hx, h1, h2, h3⟩ := Strs.pop (i := 1) (n := p) (k := 4 - i) (env := e1.set 4 (some d)) rfl rfl hF (by rw [show 4 - i + 1 = 5 - i by omega]; exact hs) (by omega)
      refine ⟨.str x, S', h3, ⟨x, rfl, hx⟩, _, h1, hE.set (Nat.le_refl _) o, by rw [show 5 - (i + 1) = 4 - i by omega]; exact h2, ?_⟩
      obtain ⟨fs, k1, k2, k3⟩ := hf
      exact ⟨fs, k1, k2, by rw [List.getElem?_set_ne (by omega)]; exact k3⟩)
  obtain ⟨xs, rfl, hxs⟩ := strsOf_mem hy2
  rw [hrl, List.length_map] at hy1
  have c4 : cmp [4] mkL (itr1 (cns (bin (addD mkL) (fun _ => pur (.int 1)) (cal (cns (getv 0) (cns (fun _ => pur (.int 3)) (fun _ => pur []))) g_law_draw)) (fun _ => pur []))) (toN 4) (fun _ => pur true) (met (getv 1) (cns (cal (cns (getv 0) (cns (cal (cns (getv 1) (fun _ => pur [])) lenD) (fun _ => pur []))) g_law_draw) (fun _ => pur [])) popD) e1 S2 = .ok (.lst (xs.map .str)) S4 := by
    simp only [cmp, bd, i3]
    exact e4
  have hxl : xs.length < 64 := by omega
  let ns := srt xs
  have hnl : ns.length = 1 + r := by rw [srt_len, hy1]
  have c5 : sortedD mkL [.lst (xs.map .str)] S4 = .ok (.lst (ns.map .str)) S4 := by
    simp only [sortedD, seqL, seqM, bd, pur, strsOf_map, opt, srtM, if_pos hxl]
    rw [mkL_ok]
    rw [List.length_map, srt_len]; exact sz _ (by omega)
  have s3 := set_ok (i := 3) ((cal1_okS c4).trans c5)
  have hns : ∀ x ∈ ns, okN x := fun x hx => hxs x (srt_mem hx)
  -- the forms
  let e5 : Fx.Env := [some (.obj 0), some (.obj (p + 1)), some (.obj (p + 1 + 1)), some (.lst (ns.map .str)), none, none, none, none, none, none, none]
  obtain ⟨env6, S6, e6, k, t, sl, en, z8, z9, z10, R6, rfl, hF6, hE6, hf6⟩ := loop_st (t := toN 5) (b := outer) (fun i env S => ∃ k t sl en z8 z9 z10 Rc, env = envO (.obj (p + 1)) (.obj (p + 1 + 1)) ns k t sl en z8 z9 z10 ∧ Fd S Rc ∧ Ext R Rc ∧ Frs Rc (p + 1) i) (1 + r) (fun d => ∃ x, d = .str x ∧ okN x) (ns.map .str) 0 e5 S4 (by rw [List.length_map, hnl]; omega) (fun d hd => by
      obtain ⟨x, hx, rfl⟩ := List.mem_map.mp hd; exact ⟨x, rfl, hns x hx⟩)
    ⟨_, _, _, _, _, _, _, R4, rfl, hF4, hE4, hf4⟩ (by
      rintro i hi d ⟨x, rfl, hx⟩ env S ⟨k, t, sl, en, z8, z9, z10, Rc, rfl, hF, hE, hf⟩
      refine ⟨_, rfl, ?_⟩
      obtain ⟨k', sl', en', z8', z9', z10', S', R', h1, h2, h3, h4⟩ := outer_ok (R0 := R) (p := p + 1) (names := ns) (a := .obj (p + 1)) (title := x) (k := k) (sl := sl) (en := en) (z8 := z8) (z9 := z9) (z10 := z10) hF hE (Nat.le_succ _) hf (by omega) hx hns (by omega) (by omega)
      exact ⟨_, S', h1, _, _, _, _, _, _, _, R', rfl, h2, h3, h4⟩)
  obtain ⟨fs, q1, q2, q3⟩ := hf6
  refine ⟨fs, S6, R6, by omega, by omega, q2, hF6, hE6, body_rt rfl ((seq_nx s1).trans ((seq_nx s3).trans ((seq_nx ((for_ok rfl).trans e6)).trans (ret_okS ((cal1_ok (getv_ok rfl)).trans ?_)))))⟩
  have : S6[p + 1 + 1]? = some (some (.lst (fs.map frow))) := by rw [hF6.get]; exact q3
  have z : seqL (.obj (p + 1 + 1)) S6 = .ok (fs.map frow) S6 := by simp only [seqL, seqM, this]
  simp only [tupleD, bd, z]
  rw [mkT_ok]
  rw [List.length_map]; exact sz _ (by omega)
end
end K03

end
/-! ## K03k -/
section
namespace K03
variable [Fx.Tabl]
open PySem Fx
open L2 (atI ixN Key)
def asc (x : Str) : Prop := ∀ c ∈ x.cps.toList, c < 128
theorem asc.app {a b : Str} (h : asc a) (g : asc b) : asc (a ++ b) := fun c hc => (app_mem hc).elim (h c) (g c)
theorem asc_of {x : Str} (h : x.cps.all (· < 128) = true) : asc x := all_lt.mp h
theorem textFrom_asc : ∀ (ts : List Str) (k : Nat) (acc : Str), asc acc → (∀ t ∈ ts, asc t) → asc (textFrom k acc ts)
  | [], k, acc, h, _ => h
  | t :: r, k, acc, h, g => by
    have h1 : asc (if k > 0 then (", " : Str) else ("" : Str)) := by
      split <;> exact asc_of (by decide +kernel)
    have h2 : asc (acc ++ (if k > 0 then ", " else "" : String) ++ t) := by
      refine (h.app ?_).app (g t (by simp))
      split <;> exact asc_of (by decide +kernel)
    exact textFrom_asc r (k + 1) _ h2 fun t ht => g t (List.mem_cons_of_mem _ ht)
theorem listText_asc {ts : List Str} (h : ∀ t ∈ ts, asc t) : asc (listText ts) := (textFrom_asc ts 0 "[" (asc_of (by decide +kernel)) h).app (asc_of (by decide +kernel))
theorem join_asc : ∀ ts : List Str, (∀ t ∈ ts, asc t) → asc (Str.join ", " ts)
  | [], _ => asc_of (by decide +kernel)
  | [x], h => h x (by simp)
  | x :: y :: r, h => by
    show asc (x ++ ", " ++ Str.join ", " (y :: r))
    exact ((h x (by simp)).app (asc_of (by decide +kernel))).app (join_asc (y :: r) fun t ht => h t (List.mem_cons_of_mem _ ht))
theorem tupleText_asc {ts : List Str} (h : ∀ t ∈ ts, asc t) : asc (tupleText ts) := by
  unfold tupleText
  refine ((asc_of (by decide +kernel) : asc ("(" : Str)).app (join_asc ts h)).app ?_
  split <;> exact asc_of (by decide +kernel)
theorem rc39 : ∀ c, c < 128 → ∀ u ∈ Builtin.Str.reprChar 39 c, u < 128 := by decide +kernel
theorem rc34 : ∀ c, c < 128 → ∀ u ∈ Builtin.Str.reprChar 34 c, u < 128 := by decide +kernel
theorem reprQ (x : Str) : reprQuote x = 39 ∨ reprQuote x = 34 := by
  unfold reprQuote
  split
  · exact .inr rfl
  · exact .inl rfl
theorem fold_asc (q : Nat) (hq : ∀ c, c < 128 → ∀ u ∈ Builtin.Str.reprChar q c, u < 128) : ∀ (l : List Nat) (acc : Array Nat), (∀ c ∈ l, c < 128) → (∀ c ∈ acc.toList, c < 128) → ∀ c ∈ (l.foldl (fun out c => out ++ (Builtin.Str.reprChar q c).toArray) acc).toList, c < 128
  | [], acc, _, h => h
  | d :: l, acc, g, h => by
    refine fold_asc q hq l _ (fun c hc => g c (List.mem_cons_of_mem _ hc)) fun c hc => ?_
    simp only [Array.toList_append, List.mem_append] at hc
    exact hc.elim (h c) (hq d (g d (by simp)) c)
theorem reprText_asc {x : Str} (h : asc x) : asc (reprText x) := by
  have hq : ∀ c, c < 128 → ∀ u ∈ Builtin.Str.reprChar (reprQuote x) c, u < 128 := by
    rcases reprQ x with e | e <;> rw [e]
    · exact rc39
    · exact rc34
  have hb : reprQuote x < 128 := by rcases reprQ x with e | e <;> rw [e] <;> decide
  intro c hc
  simp only [reprText, Array.toList_push, List.mem_append, List.mem_singleton] at hc
  rcases hc with hc | hc
  · rw [← Array.foldl_toList] at hc
    exact fold_asc _ hq x.cps.toList #[reprQuote x] h (by intro c hc; simp at hc; omega) c hc
  · omega
abbrev big60 : Nat := 10 ^ 60 - 1
mutual
theorem shown_asc : ∀ d : D, gd big60 d = true → asc (py d).shown
  | .non, _ => asc_of (by decide +kernel)
  | .bl b, _ => by cases b <;> exact asc_of (by decide +kernel)
  | .int i, _ => fun c hc => int_mem hc
  | .str x, h => reprText_asc (asc_of (by simpa [gd] using h))
  | .lst ds, h => by
    simp only [py, PyData.shown]
    exact listText_asc (shownAll_asc ds (by simpa [gd] using h))
  | .tup ds, h => by
    simp only [py, PyData.shown]
    exact tupleText_asc (shownAll_asc ds (by simpa [gd] using h))
  | .obj _, h => by simp [gd] at h
  | .scr _, h => by simp [gd] at h
  | .err .., h => by simp [gd] at h
theorem shownAll_asc : ∀ ds : List D, gds big60 ds = true → ∀ t ∈ PyData.shownAll (pys ds), asc t
  | [], _ => by simp [pys, PyData.shownAll]
  | d :: ds, h => by
    have h : gd big60 d = true ∧ gds big60 ds = true := by simpa only [gds, Bool.and_eq_true] using h
    intro t ht
    simp only [pys, PyData.shownAll, List.mem_cons] at ht
    rcases ht with rfl | ht
    · exact shown_asc d h.1
    · exact shownAll_asc ds h.2 t ht
end
mutual
theorem showable_gd : ∀ d : D, gd big60 d = true → (py d).showable = true
  | .non, _ => rfl
  | .bl b, _ => rfl
  | .int i, h => by
    have h : i.natAbs ≤ big60 := by simpa only [gd, decide_eq_true_eq] using h
    simp only [py, PyData.showable, decide_eq_true_eq]
    by_cases h0 : i.natAbs = 0
    · rw [h0]; decide
    · exact Nat.lt_trans ((Nat.log2_lt (k := 200) h0).mpr (Nat.lt_of_le_of_lt h (by decide))) (by decide)
  | .str x, _ => rfl
  | .lst ds, h => by
    have := showable_gds ds (by simpa only [gd] using h)
    simpa only [py, PyData.showable] using this
  | .tup ds, h => by
    have := showable_gds ds (by simpa only [gd] using h)
    simpa only [py, PyData.showable] using this
  | .obj _, h => by simp [gd] at h
  | .scr _, h => by simp [gd] at h
  | .err .., h => by simp [gd] at h
theorem showable_gds : ∀ ds : List D, gds big60 ds = true → PyData.showableAll (pys ds) = true
  | [], _ => rfl
  | d :: ds, h => by
    have h : gd big60 d = true ∧ gds big60 ds = true := by simpa only [gds, Bool.and_eq_true] using h
    simp only [PyData.showableAll, pys, showable_gd d h.1, showable_gds ds h.2, Bool.and_self]
end
mutual
theorem short_gd : ∀ d : D, gd big60 d = true → (py d).intsShort 61 = true
  | .non, _ => rfl
  | .bl b, _ => rfl
  | .int i, h => by
    have h : i.natAbs ≤ big60 := by simpa only [gd, decide_eq_true_eq] using h
    simp only [py, PyData.intsShort, PyData.shown]
    refine decide_eq_true ?_
    show (Str.ofString (toString i)).length ≤ 61
    rw [ofString_length]
    exact int_text_length_le10 (k := 60) (by decide) (Nat.lt_of_le_of_lt h (by decide))
  | .str x, _ => rfl
  | .lst ds, h => by
    have := short_gds ds (by simpa only [gd] using h)
    simpa only [py, PyData.intsShort] using this
  | .tup ds, h => by
    have := short_gds ds (by simpa only [gd] using h)
    simpa only [py, PyData.intsShort] using this
  | .obj _, h => by simp [gd] at h
  | .scr _, h => by simp [gd] at h
  | .err .., h => by simp [gd] at h
theorem short_gds : ∀ ds : List D, gds big60 ds = true → PyData.intsShortAll 61 (pys ds) = true
  | [], _ => rfl
  | d :: ds, h => by
    have h : gd big60 d = true ∧ gds big60 ds = true := by simpa only [gds, Bool.and_eq_true] using h
    simp only [PyData.intsShortAll, pys, short_gd d h.1, short_gds ds h.2, Bool.and_self]
end
theorem repr_ok {d : D} {S : Store} (h : gd big60 d = true) (hw : wgt d ≤ 260000) (hd : dep d ≤ 64) : reprD [d] S = .ok (.str (py d).shown) S := by
  have hl := PyData.shown_le 61 (by decide) (py d) (PyData.leavesShort_of_canLay0 61 _ (lay_gd d h) (short_gd d h))
  have hs : shows (py d) := ⟨showable_gd d h, PyData.hasDict_of_canLay _ (lay_gd d h), hd, by
    have : (py d).weight ≤ 260000 := hw
    have e : (16777216 : Nat) ≤ sizeLine := by decide
    omega⟩
  simp only [reprD, bd, pyM_eq h, if_pos hs, pur]
theorem str_ne {x : Str} {S : Store} (h : asc x) : neD (.str x) (.str x) S = .ok (.bl false) S := by
  rw [neD_eq (n := 0) (m := 0) (by rw [gd]; exact all_lt.mpr h) (by rw [gd]; exact all_lt.mpr h) (Nat.zero_le _) (Nat.zero_le _)]
  simp [eqP, py, PyData.eqv]
theorem str_eq {x : Str} {S : Store} (h : asc x) : eqD (.str x) (.str x) S = .ok (.bl true) S := by
  rw [eqD_eq (n := 0) (m := 0) (by rw [gd]; exact all_lt.mpr h) (by rw [gd]; exact all_lt.mpr h) (Nat.zero_le _) (Nat.zero_le _)]
  simp [eqP, py, PyData.eqv]
end K03

end
/-! ## K03x -/
section
namespace K03
variable [Fx.Tabl]
open PySem Fx
open L2 (atI ixN Key)
theorem cut_all {ds : List D} {s : Nat} (h : ds.length ≤ s) : cutD ds none (some (s : Int)) = ds := by
  unfold cutD
  rw [HT.sIx_none, HT.sIx_nat, Nat.min_eq_right h]; simp
theorem merge4 (x a l c : D) : mergeD [] ([(.inr "cells" : Key), .inr "at", .inr "left", .inr "count"].zip [x, a, l, c]) = kvs x a l c := by
  simp only [List.zip_cons_cons, List.zip_nil_right, mergeD, List.foldl_cons, List.foldl_nil, putD, kvs, List.any_nil, List.any_cons, Bool.false_eq_true, if_false, List.nil_append, List.cons_append,
    decide_eq_false n12, decide_eq_false n13, decide_eq_false n14, decide_eq_false n23, decide_eq_false n24, decide_eq_false n34, Bool.or_false, Bool.or_self]
theorem feed_ok {ns : List Int} (h : ns.length ≤ 63) : ∃ S0, Fd S0 [] ∧ g_law_feed [.scr ns] [] = .ok (.obj 0) S0 := by
  refine ⟨St (.lst (ns.map .int)) (.int 0) (.int 0) (.int 0) [], ⟨ns, 0, 0, 0, h, rfl⟩, body_rt rfl (ret_okS ?_)⟩
  have c := cut_all (ds := ns.map D.int) (s := 63) (by simpa using h)
  have c : cutD (ns.map D.int) none (some 63) = ns.map D.int := c
  have l : (ns.map D.int).length ≤ sizeLine := sz _ (by simp; omega)
  have e : slc (getv 0) (fun _ => pur none) (fun env => bd ((fun _ => pur (.int 63)) env) intOf) (ent 1 [.scr ns]) [] = .ok (.lst (ns.map D.int)) [] := by
    have g : getv 0 (ent 1 [.scr ns]) [] = .ok (.scr ns) [] := getv_ok rfl
    simp only [slc, bd, g, pur, intOf, slD, seqL, if_pos l, c]
  have e2 := cal1_ok (g := listD mkL) e
  have e3 : listD mkL [.lst (ns.map D.int)] [] = .ok (.lst (ns.map D.int)) [] := by
    simp only [listD, seqLT, seqL, seqM, bd, pur]; exact mkL_ok l
  rw [e3] at e2
  simp only [dspD, bd, cns, e2, pur, merge4, mkO]; rfl
def resL (r : Rs D) : List D := match r with
  | .ok (.obj n) S => match S[n]? with
    | some (some (.lst ds)) => ds
    | _ => []
  | .ok (.lst ds) _ => ds
  | _ => []
def resO (r : Rs D) (n : Nat) : Option OD := match r with
  | .ok _ S => (S[n]?).getD none
  | _ => none
theorem row_in {q : Str × D} (h : okN q.1 ∧ SortOk q.2) : gd 2000 (row q) = true ∧ dep (row q) ≤ 2 ∧ wgt (row q) ≤ 40 := by
  have h1 : wgt (.str q.1) ≤ 8 := h.1.2
  have i : In 2000 40 2 (row q) := by
    refine In.tup (P := 1) (fun d hd => ?_) ?_
    · simp only [List.mem_cons, List.not_mem_nil, or_false] at hd
      rcases hd with rfl | rfl
      · exact ⟨by rw [gd]; exact all_lt.mpr h.1.1, Nat.zero_le _⟩
      · exact ⟨h.2.inn.g, h.2.inn.p⟩
    · rw [sw_cons, sw_cons, sw_nil]; have := h.2.inn.w; omega
  exact ⟨i.g, i.p, i.w⟩
theorem sw_map_le {α : Type} (f : α → D) (w : Nat) : ∀ {xs : List α}, (∀ x ∈ xs, wgt (f x) ≤ w) → sw (xs.map f) ≤ xs.length * (w + 1)
  | [], _ => Nat.zero_le _
  | x :: xs, h => by
    have h1 := sw_map_le f w (xs := xs) fun y hy => h y (List.mem_cons_of_mem _ hy)
    have h2 := h x (by simp)
    rw [List.map_cons, sw_cons, List.length_cons, Nat.add_mul]; omega
theorem form_in {f : Form} (h : FormOk f) : In 2000 164 3 (.tup (f.2.map row)) := by
  refine In.tup (P := 2) (fun d hd => ?_) ?_
  · obtain ⟨q, hq, rfl⟩ := List.mem_map.mp hd
    exact ⟨(row_in (h.e q hq)).1, (row_in (h.e q hq)).2.1⟩
  · have := sw_map_le row 40 (xs := f.2) fun q hq => (row_in (h.e q hq)).2.2
    have := h.l
    have : f.2.length * 41 ≤ 4 * 41 := Nat.mul_le_mul_right _ h.l
    omega
theorem frow_in {f : Form} (h : FormOk f) : In 2000 174 4 (frow f) := by
  have h1 : wgt (.str f.1) ≤ 8 := h.n.2
  refine In.tup (P := 3) (fun d hd => ?_) ?_
  · simp only [List.mem_cons, List.not_mem_nil, or_false] at hd
    rcases hd with rfl | rfl
    · exact ⟨by rw [gd]; exact all_lt.mpr h.n.1, Nat.zero_le _⟩
    · exact ⟨(form_in h).g, (form_in h).p⟩
  · rw [sw_cons, sw_cons, sw_nil]; have := (form_in h).w; omega
theorem scheme_in {fs : List Form} (h : ∀ f ∈ fs, FormOk f) (hl : fs.length ≤ 3) : In 2000 525 5 (.tup (fs.map frow)) := by
  refine In.tup (P := 4) (fun d hd => ?_) ?_
  · obtain ⟨f, hf, rfl⟩ := List.mem_map.mp hd
    exact ⟨(frow_in (h f hf)).g, (frow_in (h f hf)).p⟩
  · have := sw_map_le frow 174 (xs := fs) fun f hf => (frow_in (h f hf)).w
    have : fs.length * 175 ≤ 3 * 175 := Nat.mul_le_mul_right _ hl
    omega
end K03

end
/-! ## K03n -/
section
namespace K03
variable [Fx.Tabl]
open PySem Fx
open L2 (atI ixN Key)
def numP : D → Bool
  | .int i => decide (0 ≤ i)
  | _ => false
theorem is_number_ok {n : Nat} {d : D} (S : Store) (h : gd n d = true) : g_is_number [d] S = .ok (.bl (numP d)) S := by
  have e := is_integer_ok S h
  cases d <;> simp [gd] at h <;> simp [Fx.bodyD, Fx.ent, Fx.seqS, Fx.ifS, Fx.ret, Fx.set, Fx.drop, Fx.asg, Fx.lft, Fx.bd, Fx.pur, Fx.opt, Fx.tst, Fx.asB, Fx.bin, Fx.getv, Fx.cns, Fx.cal, Fx.un, Fx.andV, Fx.orV, Fx.notV, Fx.andB, Fx.orB, Fx.notB, Fx.iteV, Fx.isi, Fx.tyM, Fx.isT, Fx.dsp, Fx.itf, Fx.itm, Fx.pass, Fx.ite_ap, g_is_number, b_is_number, numP, e, intP, geD]
theorem law_int_ok {n : Nat} {d : D} (S : Store) (h : gd n d = true) : g_law_integer [d] S = .ok (.bl (intP d)) S := law_integer_ok S h
def rowP : D → Bool
  | .tup [a, b, c] => numP a && nameP b && isTup c
  | _ => false
theorem neInt (n : Nat) (m : Int) (S : Store) : neD (.int n) (.int m) S = .ok (.bl (!((n : Int) == m))) S := neD_int _ _ S
theorem ix30 (a b c : D) (S : Store) : ixD (.tup [a, b, c]) (.int 0) S = .ok a S := rfl
theorem ix31 (a b c : D) (S : Store) : ixD (.tup [a, b, c]) (.int 1) S = .ok b S := rfl
theorem ix32 (a b c : D) (S : Store) : ixD (.tup [a, b, c]) (.int 2) S = .ok c S := rfl
theorem three {r : List D} : ((r.length : Int) + 1 + 1 + 1 + 1 == 3) = false := by rw [beq_eq_false_iff_ne]; omega
theorem isTup_ty {n : Nat} {d : D} {S : Store} (h : gd n d = true) : isi "tuple" (fun _ => pur d) [] S = .ok (.bl (isTup d)) S := by
  cases d <;> simp [gd] at h <;> simp [Fx.bodyD, Fx.ent, Fx.seqS, Fx.ifS, Fx.ret, Fx.set, Fx.drop, Fx.asg, Fx.lft, Fx.bd, Fx.pur, Fx.opt, Fx.tst, Fx.asB, Fx.bin, Fx.getv, Fx.cns, Fx.cal, Fx.un, Fx.andV, Fx.orV, Fx.notV, Fx.andB, Fx.orB, Fx.notB, Fx.iteV, Fx.isi, Fx.tyM, Fx.isT, Fx.dsp, Fx.itf, Fx.itm, Fx.pass, Fx.ite_ap, isTup]
theorem Ok.e0 {n : Nat} {a : D} {r : List D} (h : Ok n (.tup (a :: r))) : Ok n a := h.row (by simp)
theorem Ok.e1 {n : Nat} {a b : D} {r : List D} (h : Ok n (.tup (a :: b :: r))) : Ok n b := h.row (by simp)
theorem Ok.e2 {n : Nat} {a b c : D} {r : List D} (h : Ok n (.tup (a :: b :: c :: r))) : Ok n c := h.row (by simp)
theorem is_row_ok {n : Nat} {d : D} (S : Store) (h : Ok n d) : g_is_row [d] S = .ok (.bl (rowP d)) S := by
  have hg := h.g
  cases d <;> first
    | (simp [gd] at hg; done)
    | skip
  case tup ds =>
    match ds, h with
    | [], _ => simp [Fx.bodyD, Fx.ent, Fx.seqS, Fx.ifS, Fx.ret, Fx.set, Fx.drop, Fx.asg, Fx.lft, Fx.bd, Fx.pur, Fx.opt, Fx.tst, Fx.asB, Fx.bin, Fx.getv, Fx.cns, Fx.cal, Fx.un, Fx.andV, Fx.orV, Fx.notV, Fx.andB, Fx.orB, Fx.notB, Fx.iteV, Fx.isi, Fx.tyM, Fx.isT, Fx.dsp, Fx.itf, Fx.itm, Fx.pass, Fx.ite_ap, g_is_row, b_is_row, rowP, lenD, neD_int]
    | [a], _ => simp [Fx.bodyD, Fx.ent, Fx.seqS, Fx.ifS, Fx.ret, Fx.set, Fx.drop, Fx.asg, Fx.lft, Fx.bd, Fx.pur, Fx.opt, Fx.tst, Fx.asB, Fx.bin, Fx.getv, Fx.cns, Fx.cal, Fx.un, Fx.andV, Fx.orV, Fx.notV, Fx.andB, Fx.orB, Fx.notB, Fx.iteV, Fx.isi, Fx.tyM, Fx.isT, Fx.dsp, Fx.itf, Fx.itm, Fx.pass, Fx.ite_ap, g_is_row, b_is_row, rowP, lenD, neD_int]
    | [a, b], _ => simp [Fx.bodyD, Fx.ent, Fx.seqS, Fx.ifS, Fx.ret, Fx.set, Fx.drop, Fx.asg, Fx.lft, Fx.bd, Fx.pur, Fx.opt, Fx.tst, Fx.asB, Fx.bin, Fx.getv, Fx.cns, Fx.cal, Fx.un, Fx.andV, Fx.orV, Fx.notV, Fx.andB, Fx.orB, Fx.notB, Fx.iteV, Fx.isi, Fx.tyM, Fx.isT, Fx.dsp, Fx.itf, Fx.itm, Fx.pass, Fx.ite_ap, g_is_row, b_is_row, rowP, lenD, neD_int]
    | [a, b, c], h =>
      have e0 := is_number_ok S h.e0.g
      have e1 := is_name_ok S h.e1.g h.e1.w
      have hc := h.e2.g
      cases h1 : numP a <;> cases h2 : nameP b <;> (cases c <;> first
        | (simp [gd] at hc; done)
        | simp [Fx.bodyD, Fx.ent, Fx.seqS, Fx.ifS, Fx.ret, Fx.set, Fx.drop, Fx.asg, Fx.lft, Fx.bd, Fx.pur, Fx.opt, Fx.tst, Fx.asB, Fx.bin, Fx.getv, Fx.cns, Fx.cal, Fx.un, Fx.andV, Fx.orV, Fx.notV, Fx.andB, Fx.orB, Fx.notB, Fx.iteV, Fx.isi, Fx.tyM, Fx.isT, Fx.dsp, Fx.itf, Fx.itm, Fx.pass, Fx.ite_ap, g_is_row, b_is_row, rowP, lenD, neD_int, e0, e1, h1, h2, ix30, ix31, ix32, isTup])
    | a :: b :: c :: e :: r, _ => simp [Fx.bodyD, Fx.ent, Fx.seqS, Fx.ifS, Fx.ret, Fx.set, Fx.drop, Fx.asg, Fx.lft, Fx.bd, Fx.pur, Fx.opt, Fx.tst, Fx.asB, Fx.bin, Fx.getv, Fx.cns, Fx.cal, Fx.un, Fx.andV, Fx.orV, Fx.notV, Fx.andB, Fx.orB, Fx.notB, Fx.iteV, Fx.isi, Fx.tyM, Fx.isT, Fx.dsp, Fx.itf, Fx.itm, Fx.pass, Fx.ite_ap, g_is_row, b_is_row, rowP, lenD, neD_int, three]
  all_goals simp [Fx.bodyD, Fx.ent, Fx.seqS, Fx.ifS, Fx.ret, Fx.set, Fx.drop, Fx.asg, Fx.lft, Fx.bd, Fx.pur, Fx.opt, Fx.tst, Fx.asB, Fx.bin, Fx.getv, Fx.cns, Fx.cal, Fx.un, Fx.andV, Fx.orV, Fx.notV, Fx.andB, Fx.orB, Fx.notB, Fx.iteV, Fx.isi, Fx.tyM, Fx.isT, Fx.dsp, Fx.itf, Fx.itm, Fx.pass, Fx.ite_ap, g_is_row, b_is_row, rowP]
def shapeP : D → Bool
  | .tup [s, l, .tup os] => schemaP s && numP l && os.all rowP
  | _ => false
theorem has_shape_ok {n : Nat} {d : D} (S : Store) (h : Ok n d) : g_has_shape [d] S = .ok (.bl (shapeP d)) S := by
  have hg := h.g
  cases d <;> first
    | (simp [gd] at hg; done)
    | skip
  case tup ds =>
    match ds, h with
    | [], _ => simp [Fx.bodyD, Fx.ent, Fx.seqS, Fx.ifS, Fx.ret, Fx.set, Fx.drop, Fx.asg, Fx.lft, Fx.bd, Fx.pur, Fx.opt, Fx.tst, Fx.asB, Fx.bin, Fx.getv, Fx.cns, Fx.cal, Fx.un, Fx.andV, Fx.orV, Fx.notV, Fx.andB, Fx.orB, Fx.notB, Fx.iteV, Fx.isi, Fx.tyM, Fx.isT, Fx.dsp, Fx.itf, Fx.itm, Fx.pass, Fx.ite_ap, g_has_shape, b_has_shape, shapeP, lenD, neD_int]
    | [a], _ => simp [Fx.bodyD, Fx.ent, Fx.seqS, Fx.ifS, Fx.ret, Fx.set, Fx.drop, Fx.asg, Fx.lft, Fx.bd, Fx.pur, Fx.opt, Fx.tst, Fx.asB, Fx.bin, Fx.getv, Fx.cns, Fx.cal, Fx.un, Fx.andV, Fx.orV, Fx.notV, Fx.andB, Fx.orB, Fx.notB, Fx.iteV, Fx.isi, Fx.tyM, Fx.isT, Fx.dsp, Fx.itf, Fx.itm, Fx.pass, Fx.ite_ap, g_has_shape, b_has_shape, shapeP, lenD, neD_int]
    | [a, b], _ => simp [Fx.bodyD, Fx.ent, Fx.seqS, Fx.ifS, Fx.ret, Fx.set, Fx.drop, Fx.asg, Fx.lft, Fx.bd, Fx.pur, Fx.opt, Fx.tst, Fx.asB, Fx.bin, Fx.getv, Fx.cns, Fx.cal, Fx.un, Fx.andV, Fx.orV, Fx.notV, Fx.andB, Fx.orB, Fx.notB, Fx.iteV, Fx.isi, Fx.tyM, Fx.isT, Fx.dsp, Fx.itf, Fx.itm, Fx.pass, Fx.ite_ap, g_has_shape, b_has_shape, shapeP, lenD, neD_int]
    | [a, b, c], h =>
      have e0 := is_schema_ok S h.e0
      have e1 := is_number_ok S h.e1.g
      have hc := h.e2.g
      have f1 : ∀ {os : List D}, c = .tup os → cmp [4] mkL (itf (getv 3)) (toN 4) (fun _ => pur true) (cal (cns (getv 4) (fun _ => pur [])) g_is_row) [some (.tup [a, b, c]), some a, some b, some c, none] S = .ok (.lst (os.map fun r => .bl (rowP r))) S := by
        rintro os rfl
        rw [cmp_ok os (fun _ => true) (fun r => .bl (rowP r)) rfl ?_ (Nat.le_trans h.e2.len big_le), List.filter_eq_self.mpr (by simp)]
        intro r hr
        refine ⟨_, rfl, rfl, fun _ => ?_⟩
        have := is_row_ok S (h.e2.row hr)
        simp [Fx.bodyD, Fx.ent, Fx.seqS, Fx.ifS, Fx.ret, Fx.set, Fx.drop, Fx.asg, Fx.lft, Fx.bd, Fx.pur, Fx.opt, Fx.tst, Fx.asB, Fx.bin, Fx.getv, Fx.cns, Fx.cal, Fx.un, Fx.andV, Fx.orV, Fx.notV, Fx.andB, Fx.orB, Fx.notB, Fx.iteV, Fx.isi, Fx.tyM, Fx.isT, Fx.dsp, Fx.itf, Fx.itm, Fx.pass, Fx.ite_ap, toN, wipeE, this]
      cases h1 : schemaP a <;> cases h2 : numP b <;> (cases c <;> first
        | (simp [gd] at hc; done)
        | (have f1 := f1 rfl; simp [Fx.bodyD, Fx.ent, Fx.seqS, Fx.ifS, Fx.ret, Fx.set, Fx.drop, Fx.asg, Fx.lft, Fx.bd, Fx.pur, Fx.opt, Fx.tst, Fx.asB, Fx.bin, Fx.getv, Fx.cns, Fx.cal, Fx.un, Fx.andV, Fx.orV, Fx.notV, Fx.andB, Fx.orB, Fx.notB, Fx.iteV, Fx.isi, Fx.tyM, Fx.isT, Fx.dsp, Fx.itf, Fx.itm, Fx.pass, Fx.ite_ap, g_has_shape, b_has_shape, shapeP, lenD, neD_int, e0, e1, h1, h2, toTup, toCons, toNil, toN, f1, allD_map])
        | simp [Fx.bodyD, Fx.ent, Fx.seqS, Fx.ifS, Fx.ret, Fx.set, Fx.drop, Fx.asg, Fx.lft, Fx.bd, Fx.pur, Fx.opt, Fx.tst, Fx.asB, Fx.bin, Fx.getv, Fx.cns, Fx.cal, Fx.un, Fx.andV, Fx.orV, Fx.notV, Fx.andB, Fx.orB, Fx.notB, Fx.iteV, Fx.isi, Fx.tyM, Fx.isT, Fx.dsp, Fx.itf, Fx.itm, Fx.pass, Fx.ite_ap, g_has_shape, b_has_shape, shapeP, lenD, neD_int, e0, e1, h1, h2, toTup, toCons, toNil, toN])
    | a :: b :: c :: e :: r, _ => simp [Fx.bodyD, Fx.ent, Fx.seqS, Fx.ifS, Fx.ret, Fx.set, Fx.drop, Fx.asg, Fx.lft, Fx.bd, Fx.pur, Fx.opt, Fx.tst, Fx.asB, Fx.bin, Fx.getv, Fx.cns, Fx.cal, Fx.un, Fx.andV, Fx.orV, Fx.notV, Fx.andB, Fx.orB, Fx.notB, Fx.iteV, Fx.isi, Fx.tyM, Fx.isT, Fx.dsp, Fx.itf, Fx.itm, Fx.pass, Fx.ite_ap, g_has_shape, b_has_shape, shapeP, lenD, neD_int, three]
  all_goals simp [Fx.bodyD, Fx.ent, Fx.seqS, Fx.ifS, Fx.ret, Fx.set, Fx.drop, Fx.asg, Fx.lft, Fx.bd, Fx.pur, Fx.opt, Fx.tst, Fx.asB, Fx.bin, Fx.getv, Fx.cns, Fx.cal, Fx.un, Fx.andV, Fx.orV, Fx.notV, Fx.andB, Fx.orB, Fx.notB, Fx.iteV, Fx.isi, Fx.tyM, Fx.isT, Fx.dsp, Fx.itf, Fx.itm, Fx.pass, Fx.ite_ap, g_has_shape, b_has_shape, shapeP]
theorem num_split {n : Nat} {d : D} (h : gd n d = true) : numP d = (intP d && (match d with | .int i => decide (0 ≤ i) | _ => false)) := by cases d <;> rfl
def bRow : Fx.Env → MS := (seqS (ifS (orB (notB (tst (isi "tuple" (getv 1)))) (orB (tst (bin neD (cal (cns (getv 1) (fun _ => pur [])) lenD) (fun _ => pur (.int 3)))) (orB (notB (tst (cal (cns (bin ixD (getv 1) (fun _ => pur (.int 0))) (fun _ => pur [])) g_law_integer))) (tst (bin ltD (bin ixD (getv 1) (fun _ => pur (.int 0))) (fun _ => pur (.int 0))))))) (Fx.ret (fun _ => pur (.bl false))) pass)
  (ifS (orB (notB (tst (cal (cns (bin ixD (getv 1) (fun _ => pur (.int 1))) (fun _ => pur [])) g_law_named))) (notB (tst (isi "tuple" (bin ixD (getv 1) (fun _ => pur (.int 2))))))) (Fx.ret (fun _ => pur (.bl false))) pass))
theorem bRow_ok {n : Nat} {r x : D} (S : Store) (h : Ok n r) : bRow [some x, some r] S = (if rowP r = true then .ok (.nx [some x, some r]) S else .ok (.rt (.bl false)) S) := by
  have hg := h.g
  cases r <;> first
    | (simp [gd] at hg; done)
    | skip
  case tup ds =>
    match ds, h with
    | [], _ => simp [Fx.bodyD, Fx.ent, Fx.seqS, Fx.ifS, Fx.ret, Fx.set, Fx.drop, Fx.asg, Fx.lft, Fx.bd, Fx.pur, Fx.opt, Fx.tst, Fx.asB, Fx.bin, Fx.getv, Fx.cns, Fx.cal, Fx.un, Fx.andV, Fx.orV, Fx.notV, Fx.andB, Fx.orB, Fx.notB, Fx.iteV, Fx.isi, Fx.tyM, Fx.isT, Fx.dsp, Fx.itf, Fx.itm, Fx.pass, Fx.ite_ap, bRow, rowP, lenD, neD_int]
    | [a], _ => simp [Fx.bodyD, Fx.ent, Fx.seqS, Fx.ifS, Fx.ret, Fx.set, Fx.drop, Fx.asg, Fx.lft, Fx.bd, Fx.pur, Fx.opt, Fx.tst, Fx.asB, Fx.bin, Fx.getv, Fx.cns, Fx.cal, Fx.un, Fx.andV, Fx.orV, Fx.notV, Fx.andB, Fx.orB, Fx.notB, Fx.iteV, Fx.isi, Fx.tyM, Fx.isT, Fx.dsp, Fx.itf, Fx.itm, Fx.pass, Fx.ite_ap, bRow, rowP, lenD, neD_int]
    | [a, b], _ => simp [Fx.bodyD, Fx.ent, Fx.seqS, Fx.ifS, Fx.ret, Fx.set, Fx.drop, Fx.asg, Fx.lft, Fx.bd, Fx.pur, Fx.opt, Fx.tst, Fx.asB, Fx.bin, Fx.getv, Fx.cns, Fx.cal, Fx.un, Fx.andV, Fx.orV, Fx.notV, Fx.andB, Fx.orB, Fx.notB, Fx.iteV, Fx.isi, Fx.tyM, Fx.isT, Fx.dsp, Fx.itf, Fx.itm, Fx.pass, Fx.ite_ap, bRow, rowP, lenD, neD_int]
    | [a, b, c], h =>
      have e0 := law_integer_ok S h.e0.g
      have e1 := law_named_ok S h.e1.g h.e1.w
      have hc := h.e2.g
      have ha := h.e0.g
      cases a <;> first
        | (simp [gd] at ha; done)
        | skip
      case int i =>
        by_cases hi : i < 0
        · have : ¬ 0 ≤ i := by omega
          simp [Fx.bodyD, Fx.ent, Fx.seqS, Fx.ifS, Fx.ret, Fx.set, Fx.drop, Fx.asg, Fx.lft, Fx.bd, Fx.pur, Fx.opt, Fx.tst, Fx.asB, Fx.bin, Fx.getv, Fx.cns, Fx.cal, Fx.un, Fx.andV, Fx.orV, Fx.notV, Fx.andB, Fx.orB, Fx.notB, Fx.iteV, Fx.isi, Fx.tyM, Fx.isT, Fx.dsp, Fx.itf, Fx.itm, Fx.pass, Fx.ite_ap, bRow, rowP, lenD, neD_int, e0, e1, ix30, ix31, ix32, numP, intP, ltD, hi, this]
        · have : 0 ≤ i := by omega
          cases h2 : nameP b <;> (cases c <;> first
            | (simp [gd] at hc; done)
            | simp [Fx.bodyD, Fx.ent, Fx.seqS, Fx.ifS, Fx.ret, Fx.set, Fx.drop, Fx.asg, Fx.lft, Fx.bd, Fx.pur, Fx.opt, Fx.tst, Fx.asB, Fx.bin, Fx.getv, Fx.cns, Fx.cal, Fx.un, Fx.andV, Fx.orV, Fx.notV, Fx.andB, Fx.orB, Fx.notB, Fx.iteV, Fx.isi, Fx.tyM, Fx.isT, Fx.dsp, Fx.itf, Fx.itm, Fx.pass, Fx.ite_ap, bRow, rowP, lenD, neD_int, e0, e1, h2, ix30, ix31, ix32, numP, intP, ltD, hi, this, isTup])
      all_goals simp [Fx.bodyD, Fx.ent, Fx.seqS, Fx.ifS, Fx.ret, Fx.set, Fx.drop, Fx.asg, Fx.lft, Fx.bd, Fx.pur, Fx.opt, Fx.tst, Fx.asB, Fx.bin, Fx.getv, Fx.cns, Fx.cal, Fx.un, Fx.andV, Fx.orV, Fx.notV, Fx.andB, Fx.orB, Fx.notB, Fx.iteV, Fx.isi, Fx.tyM, Fx.isT, Fx.dsp, Fx.itf, Fx.itm, Fx.pass, Fx.ite_ap, bRow, rowP, lenD, neD_int, e0, ix30, numP, intP]
    | a :: b :: c :: e :: r, _ => simp [Fx.bodyD, Fx.ent, Fx.seqS, Fx.ifS, Fx.ret, Fx.set, Fx.drop, Fx.asg, Fx.lft, Fx.bd, Fx.pur, Fx.opt, Fx.tst, Fx.asB, Fx.bin, Fx.getv, Fx.cns, Fx.cal, Fx.un, Fx.andV, Fx.orV, Fx.notV, Fx.andB, Fx.orB, Fx.notB, Fx.iteV, Fx.isi, Fx.tyM, Fx.isT, Fx.dsp, Fx.itf, Fx.itm, Fx.pass, Fx.ite_ap, bRow, rowP, lenD, neD_int, three]
  all_goals simp [Fx.bodyD, Fx.ent, Fx.seqS, Fx.ifS, Fx.ret, Fx.set, Fx.drop, Fx.asg, Fx.lft, Fx.bd, Fx.pur, Fx.opt, Fx.tst, Fx.asB, Fx.bin, Fx.getv, Fx.cns, Fx.cal, Fx.un, Fx.andV, Fx.orV, Fx.notV, Fx.andB, Fx.orB, Fx.notB, Fx.iteV, Fx.isi, Fx.tyM, Fx.isT, Fx.dsp, Fx.itf, Fx.itm, Fx.pass, Fx.ite_ap, bRow, rowP]
theorem law_has_shape_ok {n : Nat} {d : D} (S : Store) (h : Ok n d) : g_law_has_shape [d] S = .ok (.bl (shapeP d)) S := by
  have hg := h.g
  cases d <;> first
    | (simp [gd] at hg; done)
    | skip
  case tup ds =>
    match ds, h with
    | [], _ => simp [Fx.bodyD, Fx.ent, Fx.seqS, Fx.ifS, Fx.ret, Fx.set, Fx.drop, Fx.asg, Fx.lft, Fx.bd, Fx.pur, Fx.opt, Fx.tst, Fx.asB, Fx.bin, Fx.getv, Fx.cns, Fx.cal, Fx.un, Fx.andV, Fx.orV, Fx.notV, Fx.andB, Fx.orB, Fx.notB, Fx.iteV, Fx.isi, Fx.tyM, Fx.isT, Fx.dsp, Fx.itf, Fx.itm, Fx.pass, Fx.ite_ap, g_law_has_shape, b_law_has_shape, shapeP, lenD, neD_int]
    | [a], _ => simp [Fx.bodyD, Fx.ent, Fx.seqS, Fx.ifS, Fx.ret, Fx.set, Fx.drop, Fx.asg, Fx.lft, Fx.bd, Fx.pur, Fx.opt, Fx.tst, Fx.asB, Fx.bin, Fx.getv, Fx.cns, Fx.cal, Fx.un, Fx.andV, Fx.orV, Fx.notV, Fx.andB, Fx.orB, Fx.notB, Fx.iteV, Fx.isi, Fx.tyM, Fx.isT, Fx.dsp, Fx.itf, Fx.itm, Fx.pass, Fx.ite_ap, g_law_has_shape, b_law_has_shape, shapeP, lenD, neD_int]
    | [a, b], _ => simp [Fx.bodyD, Fx.ent, Fx.seqS, Fx.ifS, Fx.ret, Fx.set, Fx.drop, Fx.asg, Fx.lft, Fx.bd, Fx.pur, Fx.opt, Fx.tst, Fx.asB, Fx.bin, Fx.getv, Fx.cns, Fx.cal, Fx.un, Fx.andV, Fx.orV, Fx.notV, Fx.andB, Fx.orB, Fx.notB, Fx.iteV, Fx.isi, Fx.tyM, Fx.isT, Fx.dsp, Fx.itf, Fx.itm, Fx.pass, Fx.ite_ap, g_law_has_shape, b_law_has_shape, shapeP, lenD, neD_int]
    | [a, b, c], h =>
      have e0 := law_schemed_ok S h.e0
      have e1 := law_integer_ok S h.e1.g
      have hc := h.e2.g
      have hb := h.e1.g
      cases h1 : schemaP a with
      | false => cases c <;> simp [Fx.bodyD, Fx.ent, Fx.seqS, Fx.ifS, Fx.ret, Fx.set, Fx.drop, Fx.asg, Fx.lft, Fx.bd, Fx.pur, Fx.opt, Fx.tst, Fx.asB, Fx.bin, Fx.getv, Fx.cns, Fx.cal, Fx.un, Fx.andV, Fx.orV, Fx.notV, Fx.andB, Fx.orB, Fx.notB, Fx.iteV, Fx.isi, Fx.tyM, Fx.isT, Fx.dsp, Fx.itf, Fx.itm, Fx.pass, Fx.ite_ap, g_law_has_shape, b_law_has_shape, shapeP, lenD, neD_int, e0, h1, ix30]
      | true =>
        cases b <;> first
          | (simp [gd] at hb; done)
          | skip
        case int i =>
          by_cases hi : i < 0
          · have : ¬ 0 ≤ i := by omega
            cases c <;> simp [Fx.bodyD, Fx.ent, Fx.seqS, Fx.ifS, Fx.ret, Fx.set, Fx.drop, Fx.asg, Fx.lft, Fx.bd, Fx.pur, Fx.opt, Fx.tst, Fx.asB, Fx.bin, Fx.getv, Fx.cns, Fx.cal, Fx.un, Fx.andV, Fx.orV, Fx.notV, Fx.andB, Fx.orB, Fx.notB, Fx.iteV, Fx.isi, Fx.tyM, Fx.isT, Fx.dsp, Fx.itf, Fx.itm, Fx.pass, Fx.ite_ap, g_law_has_shape, b_law_has_shape, shapeP, lenD, neD_int, e0, e1, h1, ix30, ix31, ix32, numP, intP, ltD, hi, this]
          · have h0 : 0 ≤ i := by omega
            cases c <;> first
              | (simp [gd] at hc; done)
              | skip
            case tup os =>
              let x : D := .tup [a, .int i, .tup os]
              obtain ⟨L1, L2⟩ := loop_all (t := toN 1) (b := bRow) (S := S) (fun env => ∃ z, env = [some x, z]) rowP (.bl false) os [some x, none] ⟨_, rfl⟩ (by
                rintro r hr env ⟨z, rfl⟩
                have e := bRow_ok (x := x) S (h.e2.row hr)
                refine ⟨[some x, some r], rfl, fun q => ⟨[some x, some r], ⟨_, rfl⟩, ?_⟩, fun q => ?_⟩
                · rw [q] at e; exact e
                · rw [q] at e; exact e)
              have hs : shapeP x = os.all rowP := by simp [x, shapeP, h1, numP, h0]
              show g_law_has_shape [x] S = _
              rw [hs]
              cases hp : os.all rowP with
              | false =>
                have e := L2 hp
                simp only [x, bRow] at e
                simp [Fx.bodyD, Fx.ent, Fx.seqS, Fx.ifS, Fx.ret, Fx.set, Fx.drop, Fx.asg, Fx.lft, Fx.bd, Fx.pur, Fx.opt, Fx.tst, Fx.asB, Fx.bin, Fx.getv, Fx.cns, Fx.cal, Fx.un, Fx.andV, Fx.orV, Fx.notV, Fx.andB, Fx.orB, Fx.notB, Fx.iteV, Fx.isi, Fx.tyM, Fx.isT, Fx.dsp, Fx.itf, Fx.itm, Fx.pass, Fx.ite_ap, x, g_law_has_shape, b_law_has_shape, lenD, neD_int, e0, e1, h1, ix30, ix31, ix32, intP, ltD, hi, forS, e]
              | true =>
                obtain ⟨env', ⟨z, rfl⟩, e⟩ := L1 hp
                simp only [x, bRow] at e
                simp [Fx.bodyD, Fx.ent, Fx.seqS, Fx.ifS, Fx.ret, Fx.set, Fx.drop, Fx.asg, Fx.lft, Fx.bd, Fx.pur, Fx.opt, Fx.tst, Fx.asB, Fx.bin, Fx.getv, Fx.cns, Fx.cal, Fx.un, Fx.andV, Fx.orV, Fx.notV, Fx.andB, Fx.orB, Fx.notB, Fx.iteV, Fx.isi, Fx.tyM, Fx.isT, Fx.dsp, Fx.itf, Fx.itm, Fx.pass, Fx.ite_ap, x, g_law_has_shape, b_law_has_shape, lenD, neD_int, e0, e1, h1, ix30, ix31, ix32, intP, ltD, hi, forS, e]
            all_goals simp [Fx.bodyD, Fx.ent, Fx.seqS, Fx.ifS, Fx.ret, Fx.set, Fx.drop, Fx.asg, Fx.lft, Fx.bd, Fx.pur, Fx.opt, Fx.tst, Fx.asB, Fx.bin, Fx.getv, Fx.cns, Fx.cal, Fx.un, Fx.andV, Fx.orV, Fx.notV, Fx.andB, Fx.orB, Fx.notB, Fx.iteV, Fx.isi, Fx.tyM, Fx.isT, Fx.dsp, Fx.itf, Fx.itm, Fx.pass, Fx.ite_ap, g_law_has_shape, b_law_has_shape, shapeP, lenD, neD_int, e0, e1, h1, ix30, ix31, ix32, numP, intP, ltD, hi]
        all_goals (cases c <;> simp [Fx.bodyD, Fx.ent, Fx.seqS, Fx.ifS, Fx.ret, Fx.set, Fx.drop, Fx.asg, Fx.lft, Fx.bd, Fx.pur, Fx.opt, Fx.tst, Fx.asB, Fx.bin, Fx.getv, Fx.cns, Fx.cal, Fx.un, Fx.andV, Fx.orV, Fx.notV, Fx.andB, Fx.orB, Fx.notB, Fx.iteV, Fx.isi, Fx.tyM, Fx.isT, Fx.dsp, Fx.itf, Fx.itm, Fx.pass, Fx.ite_ap, g_law_has_shape, b_law_has_shape, shapeP, lenD, neD_int, e0, e1, h1, ix30, ix31, numP, intP])
    | a :: b :: c :: e :: r, _ => simp [Fx.bodyD, Fx.ent, Fx.seqS, Fx.ifS, Fx.ret, Fx.set, Fx.drop, Fx.asg, Fx.lft, Fx.bd, Fx.pur, Fx.opt, Fx.tst, Fx.asB, Fx.bin, Fx.getv, Fx.cns, Fx.cal, Fx.un, Fx.andV, Fx.orV, Fx.notV, Fx.andB, Fx.orB, Fx.notB, Fx.iteV, Fx.isi, Fx.tyM, Fx.isT, Fx.dsp, Fx.itf, Fx.itm, Fx.pass, Fx.ite_ap, g_law_has_shape, b_law_has_shape, shapeP, lenD, neD_int, three]
  all_goals simp [Fx.bodyD, Fx.ent, Fx.seqS, Fx.ifS, Fx.ret, Fx.set, Fx.drop, Fx.asg, Fx.lft, Fx.bd, Fx.pur, Fx.opt, Fx.tst, Fx.asB, Fx.bin, Fx.getv, Fx.cns, Fx.cal, Fx.un, Fx.andV, Fx.orV, Fx.notV, Fx.andB, Fx.orB, Fx.notB, Fx.iteV, Fx.isi, Fx.tyM, Fx.isT, Fx.dsp, Fx.itf, Fx.itm, Fx.pass, Fx.ite_ap, g_law_has_shape, b_law_has_shape, shapeP]
end K03

end
/-! ## K03p -/
section
namespace K03
variable [Fx.Tabl]
open PySem Fx
open L2 (atI ixN Key)
/-! ### the first fault -/
def firstN {ρ : Type} (bad : Nat → Option ρ) : Nat → Nat → Option ρ
  | _, 0 => none
  | k, m + 1 => match bad k with
    | some r => some r
    | none => firstN bad (k + 1) m
theorem firstN_congr {ρ : Type} {p q : Nat → Option ρ} : ∀ (m k : Nat), (∀ j, k ≤ j → j < k + m → p j = q j) → firstN p k m = firstN q k m
  | 0, _, _ => rfl
  | m + 1, k, h => by
    unfold firstN
    rw [h k (Nat.le_refl _) (by omega), firstN_congr m (k + 1) fun j h1 h2 => h j (by omega) (by omega)]
theorem firstN_none {ρ : Type} {p : Nat → Option ρ} : ∀ (m k : Nat), firstN p k m = none → ∀ j, k ≤ j → j < k + m → p j = none
  | 0, _, _, j, h1, h2 => by omega
  | m + 1, k, h, j, h1, h2 => by
    unfold firstN at h
    cases e : p k with
    | some r => rw [e] at h; cases h
    | none =>
      rw [e] at h
      by_cases hj : j = k
      · rw [hj]; exact e
      · exact firstN_none m (k + 1) h j (by omega) (by omega)
/-- a loop that goes out at the first fault -/
theorem loop_fault {t : D → Fx.Env → Option Fx.Env} {b : Fx.Env → MS} {S : Store} {ρ : Type} (I : Nat → Fx.Env → Prop) (bad : Nat → Option ρ) (fin : ρ → RsS → Prop)
    (hfin : ∀ r e S', ¬ fin r (.ok (.nx e) S') ∧ ¬ fin r (.ok (.ct e) S') ∧ ¬ fin r (.ok (.bk e) S')) : ∀ (ds : List D) (k : Nat) (env : Fx.Env), I k env →
    (∀ j d env, ds[j]? = some d → I (k + j) env → ∃ env1, t d env = some env1 ∧ match bad (k + j) with
      | none => ∃ env2, b env1 S = .ok (.nx env2) S ∧ I (k + j + 1) env2
      | some r => fin r (b env1 S)) →
    match firstN bad k ds.length with
      | none => ∃ env', loop t b ds env S = .ok (.nx env') S ∧ I (k + ds.length) env'
      | some r => fin r (loop t b ds env S)
  | [], k, env, h, _ => ⟨env, rfl, h⟩
  | d :: ds, k, env, h, step => by
    obtain ⟨env1, h1, h2⟩ := step 0 d env rfl h
    rw [Nat.add_zero] at h2
    unfold loop
    simp only [h1, List.length_cons, firstN]
    cases e : bad k with
    | some r =>
      rw [e] at h2
      simp only
      have h2 : fin r (b env1 S) := h2
      cases q : b env1 S with
      | no => rw [q] at h2; exact h2
      | ex x e3 S3 => rw [q] at h2; exact h2
      | ok fl S' =>
        rw [q] at h2
        cases fl with
        | nx e2 => exact absurd h2 (hfin r e2 S').1
        | ct e2 => exact absurd h2 (hfin r e2 S').2.1
        | bk e2 => exact absurd h2 (hfin r e2 S').2.2
        | rt d2 => exact h2
    | none =>
      rw [e] at h2
      obtain ⟨env2, h3, h4⟩ := h2
      simp only [h3]
      have := loop_fault I bad fin hfin ds (k + 1) env2 h4 fun j d env hd hI => by
        rw [show k + 1 + j = k + (j + 1) by omega] at hI ⊢
        exact step (j + 1) d env hd hI
      rw [show k + (ds.length + 1) = k + 1 + ds.length by omega]
      exact this
abbrev Flt : Type := Str × D
abbrev paper (r : Flt) : Ex := ⟨"InvalidPaper", [("at", r.2), ("word", .str r.1)]⟩
def finE (S : Store) (r : Flt) (x : RsS) : Prop := ∃ env, x = .ex (paper r) env S
def finR (S : Store) (r : Flt) (x : RsS) : Prop := x = .ok (.rt (.tup [.str r.1, r.2])) S
theorem finE_ok {S : Store} : ∀ r e S', ¬ finE S r (.ok (.nx e) S') ∧ ¬ finE S r (.ok (.ct e) S') ∧ ¬ finE S r (.ok (.bk e) S') := fun r e S' =>
  ⟨fun ⟨_, z⟩ => (by cases z), fun ⟨_, z⟩ => (by cases z), fun ⟨_, z⟩ => (by cases z)⟩
theorem finR_ok {S : Store} : ∀ r e S', ¬ finR S r (.ok (.nx e) S') ∧ ¬ finR S r (.ok (.ct e) S') ∧ ¬ finR S r (.ok (.bk e) S') := fun r e S' =>
  ⟨fun z => (nomatch z), fun z => (nomatch z), fun z => (nomatch z)⟩
/-! ### the parts of a store -/
abbrev Ob : Type := Int × Str × List D
abbrev obD (o : Ob) : D := .tup [.int o.1, .str o.2.1, .tup o.2.2]
def formOf (sc : List Form) (c : Str) : Option (List (Str × D)) := (sc.find? fun f => decide (f.1 = c)).map (·.2)
theorem formOf_cons (f : Form) (sc : List Form) (c : Str) : formOf (f :: sc) c = if f.1 = c then some f.2 else formOf sc c := by
  unfold formOf
  by_cases h : f.1 = c <;> simp [List.find?_cons, h]
theorem formOf_mem {sc : List Form} {c : Str} {f : List (Str × D)} (h : formOf sc c = some f) : (c, f) ∈ sc := by
  induction sc with
  | nil => cases h
  | cons g sc ih =>
    rw [formOf_cons] at h
    by_cases hg : g.1 = c
    · rw [if_pos hg] at h; cases h; subst hg; exact List.mem_cons_self
    · rw [if_neg hg] at h; exact List.mem_cons_of_mem _ (ih h)
theorem eqD_str {n m : Nat} {x y : Str} {S : Store} (hx : gd n (.str x) = true) (hy : gd m (.str y) = true) : eqD (.str x) (.str y) S = .ok (.bl (decide (x = y))) S := by
  rw [eqD_eq hx hy (Nat.zero_le _) (Nat.zero_le _)]
  simp [eqP, py, PyData.eqv, Bool.beq_eq_decide_eq]
theorem neD_str {n m : Nat} {x y : Str} {S : Store} (hx : gd n (.str x) = true) (hy : gd m (.str y) = true) : neD (.str x) (.str y) S = .ok (.bl (!decide (x = y))) S := by
  rw [neD_eq hx hy (Nat.zero_le _) (Nat.zero_le _)]
  simp [eqP, py, PyData.eqv, Bool.beq_eq_decide_eq]
theorem neD_nonstr {m : Nat} {y : Str} {S : Store} (hy : gd m (.str y) = true) : neD .non (.str y) S = .ok (.bl true) S := by
  rw [neD_eq (n := 0) rfl hy (Nat.zero_le _) (Nat.zero_le _)]
  simp [eqP, py, PyData.eqv]
def bFo : Fx.Env → MS := ifS (tst (bin eqD (getv 2) (getv 1))) (Fx.ret (getv 3)) pass
theorem form_loop {n : Nat} {sd : D} {c : Str} (hc : gd n (.str c) = true) (S : Store) : ∀ (sc : List Form) (z1 z2 : Option D), (∀ f ∈ sc, gd n (.str f.1) = true) →
    match formOf sc c with
      | some f => loop (toTup (toCons (toN 2) (toCons (toN 3) toNil))) bFo (sc.map frow) [some sd, some (.str c), z1, z2] S = .ok (.rt (.tup (f.map row))) S
      | none => ∃ env, loop (toTup (toCons (toN 2) (toCons (toN 3) toNil))) bFo (sc.map frow) [some sd, some (.str c), z1, z2] S = .ok (.nx env) S
  | [], _, _, _ => ⟨_, rfl⟩
  | f :: sc, z1, z2, h => by
    have hf := h f (by simp)
    rw [formOf_cons]
    have e : bFo [some sd, some (.str c), some (.str f.1), some (.tup (f.2.map row))] S = if f.1 = c then .ok (.rt (.tup (f.2.map row))) S else .ok (.nx [some sd, some (.str c), some (.str f.1), some (.tup (f.2.map row))]) S := by
      have e2 := eqD_str (S := S) hf hc
      by_cases hq : f.1 = c
      · rw [decide_eq_true hq, hq] at e2
        simp [Fx.bodyD, Fx.ent, Fx.seqS, Fx.ifS, Fx.ret, Fx.set, Fx.drop, Fx.asg, Fx.lft, Fx.bd, Fx.pur, Fx.opt, Fx.tst, Fx.asB, Fx.bin, Fx.getv, Fx.cns, Fx.cal, Fx.un, Fx.andV, Fx.orV, Fx.notV, Fx.andB, Fx.orB, Fx.notB, Fx.iteV, Fx.isi, Fx.tyM, Fx.isT, Fx.dsp, Fx.itf, Fx.itm, Fx.pass, Fx.ite_ap, bFo, e2, hq]
      · rw [decide_eq_false hq] at e2
        simp [Fx.bodyD, Fx.ent, Fx.seqS, Fx.ifS, Fx.ret, Fx.set, Fx.drop, Fx.asg, Fx.lft, Fx.bd, Fx.pur, Fx.opt, Fx.tst, Fx.asB, Fx.bin, Fx.getv, Fx.cns, Fx.cal, Fx.un, Fx.andV, Fx.orV, Fx.notV, Fx.andB, Fx.orB, Fx.notB, Fx.iteV, Fx.isi, Fx.tyM, Fx.isT, Fx.dsp, Fx.itf, Fx.itm, Fx.pass, Fx.ite_ap, bFo, e2, hq]
    have hs : toTup (toCons (toN 2) (toCons (toN 3) toNil)) (frow f) [some sd, some (.str c), z1, z2] = some [some sd, some (.str c), some (.str f.1), some (.tup (f.2.map row))] := rfl
    rw [List.map_cons]
    unfold loop
    simp only [hs, e]
    by_cases hq : f.1 = c
    · simp only [if_pos hq]
    · simp only [if_neg hq]
      exact form_loop hc S sc _ _ fun g hg => h g (List.mem_cons_of_mem _ hg)
theorem form_of_ok {n : Nat} {sc : List Form} {c : Str} (S : Store) (hc : gd n (.str c) = true) (h : ∀ f ∈ sc, gd n (.str f.1) = true) :
    g_form_of [.tup (sc.map frow), .str c] S = .ok (match formOf sc c with | some f => .tup (f.map row) | none => .non) S := by
  have L := form_loop (sd := .tup (sc.map frow)) hc S sc none none h
  cases e : formOf sc c with
  | some f =>
    rw [e] at L
    simp only [bFo] at L
    simp [Fx.bodyD, Fx.ent, Fx.seqS, Fx.ifS, Fx.ret, Fx.set, Fx.drop, Fx.asg, Fx.lft, Fx.bd, Fx.pur, Fx.opt, Fx.tst, Fx.asB, Fx.bin, Fx.getv, Fx.cns, Fx.cal, Fx.un, Fx.andV, Fx.orV, Fx.notV, Fx.andB, Fx.orB, Fx.notB, Fx.iteV, Fx.isi, Fx.tyM, Fx.isT, Fx.dsp, Fx.itf, Fx.itm, Fx.pass, Fx.ite_ap, g_form_of, b_form_of, forS, L]
  | none =>
    rw [e] at L
    obtain ⟨env, L⟩ := L
    simp only [bFo] at L
    simp [Fx.bodyD, Fx.ent, Fx.seqS, Fx.ifS, Fx.ret, Fx.set, Fx.drop, Fx.asg, Fx.lft, Fx.bd, Fx.pur, Fx.opt, Fx.tst, Fx.asB, Fx.bin, Fx.getv, Fx.cns, Fx.cal, Fx.un, Fx.andV, Fx.orV, Fx.notV, Fx.andB, Fx.orB, Fx.notB, Fx.iteV, Fx.isi, Fx.tyM, Fx.isT, Fx.dsp, Fx.itf, Fx.itm, Fx.pass, Fx.ite_ap, g_form_of, b_form_of, forS, L]
/-! ### values that suit -/
def suitP (kind v : D) : Bool := match kind with
  | .tup [.int a, .int b] => (match v with
    | .int i => decide (a ≤ i) && decide (i ≤ b)
    | _ => false)
  | _ => isNon v || numP v
theorem isD_non (x : D) (S : Store) : isD x .non S = .ok (.bl (isNon x)) S := rfl
theorem isntD_non (x : D) (S : Store) : isntD x .non S = .ok (.bl (!isNon x)) S := rfl
theorem kind_cases {k : D} (h : kindP k = true) : (∃ x, k = .str x ∧ nameP (.str x) = true) ∨ ∃ a b : Int, k = .tup [.int a, .int b] ∧ a ≤ b := by
  simp only [kindP, Bool.or_eq_true] at h
  rcases h with h | h
  · have := nameP_str h
    exact .inl ⟨_, this, by rw [← this]; exact h⟩
  · right
    unfold rangeP at h
    split at h
    · rename_i a b
      exact ⟨a, b, rfl, by simpa using h⟩
    · cases h
theorem suit_ok {n : Nat} {k v : D} (S : Store) (hk : kindP k = true) (hv : gd n v = true) : g_could_suit [k, v] S = .ok (.bl (suitP k v)) S := by
  have e1 := is_number_ok S hv
  have e2 := is_integer_ok S hv
  rcases kind_cases hk with ⟨x, rfl, _⟩ | ⟨a, b, rfl, hab⟩
  · have l : g_is_link [.str x] S = .ok (.bl true) S := by simp [Fx.bodyD, Fx.ent, Fx.seqS, Fx.ifS, Fx.ret, Fx.set, Fx.drop, Fx.asg, Fx.lft, Fx.bd, Fx.pur, Fx.opt, Fx.tst, Fx.asB, Fx.bin, Fx.getv, Fx.cns, Fx.cal, Fx.un, Fx.andV, Fx.orV, Fx.notV, Fx.andB, Fx.orB, Fx.notB, Fx.iteV, Fx.isi, Fx.tyM, Fx.isT, Fx.dsp, Fx.itf, Fx.itm, Fx.pass, Fx.ite_ap, g_is_link, b_is_link]
    cases hn : isNon v <;> cases hm : numP v <;> simp [Fx.bodyD, Fx.ent, Fx.seqS, Fx.ifS, Fx.ret, Fx.set, Fx.drop, Fx.asg, Fx.lft, Fx.bd, Fx.pur, Fx.opt, Fx.tst, Fx.asB, Fx.bin, Fx.getv, Fx.cns, Fx.cal, Fx.un, Fx.andV, Fx.orV, Fx.notV, Fx.andB, Fx.orB, Fx.notB, Fx.iteV, Fx.isi, Fx.tyM, Fx.isT, Fx.dsp, Fx.itf, Fx.itm, Fx.pass, Fx.ite_ap, g_could_suit, b_could_suit, l, isD_non, e1, hn, hm, suitP]
  · have l : g_is_link [.tup [.int a, .int b]] S = .ok (.bl false) S := by simp [Fx.bodyD, Fx.ent, Fx.seqS, Fx.ifS, Fx.ret, Fx.set, Fx.drop, Fx.asg, Fx.lft, Fx.bd, Fx.pur, Fx.opt, Fx.tst, Fx.asB, Fx.bin, Fx.getv, Fx.cns, Fx.cal, Fx.un, Fx.andV, Fx.orV, Fx.notV, Fx.andB, Fx.orB, Fx.notB, Fx.iteV, Fx.isi, Fx.tyM, Fx.isT, Fx.dsp, Fx.itf, Fx.itm, Fx.pass, Fx.ite_ap, g_is_link, b_is_link]
    have r : g_in_range [.tup [.int a, .int b], v] S = .ok (.bl (suitP (.tup [.int a, .int b]) v)) S := by
      cases v <;> first
        | (simp [gd] at hv; done)
        | skip
      case int i =>
        by_cases h1 : a ≤ i
        · by_cases h2 : i ≤ b <;> simp [Fx.bodyD, Fx.ent, Fx.seqS, Fx.ifS, Fx.ret, Fx.set, Fx.drop, Fx.asg, Fx.lft, Fx.bd, Fx.pur, Fx.opt, Fx.tst, Fx.asB, Fx.bin, Fx.getv, Fx.cns, Fx.cal, Fx.un, Fx.andV, Fx.orV, Fx.notV, Fx.andB, Fx.orB, Fx.notB, Fx.iteV, Fx.isi, Fx.tyM, Fx.isT, Fx.dsp, Fx.itf, Fx.itm, Fx.pass, Fx.ite_ap, g_in_range, b_in_range, e2, intP, chn, ix20, ix21, leD, h1, h2, suitP]
        · simp [Fx.bodyD, Fx.ent, Fx.seqS, Fx.ifS, Fx.ret, Fx.set, Fx.drop, Fx.asg, Fx.lft, Fx.bd, Fx.pur, Fx.opt, Fx.tst, Fx.asB, Fx.bin, Fx.getv, Fx.cns, Fx.cal, Fx.un, Fx.andV, Fx.orV, Fx.notV, Fx.andB, Fx.orB, Fx.notB, Fx.iteV, Fx.isi, Fx.tyM, Fx.isT, Fx.dsp, Fx.itf, Fx.itm, Fx.pass, Fx.ite_ap, g_in_range, b_in_range, e2, intP, chn, ix20, ix21, leD, h1, suitP]
      all_goals simp [Fx.bodyD, Fx.ent, Fx.seqS, Fx.ifS, Fx.ret, Fx.set, Fx.drop, Fx.asg, Fx.lft, Fx.bd, Fx.pur, Fx.opt, Fx.tst, Fx.asB, Fx.bin, Fx.getv, Fx.cns, Fx.cal, Fx.un, Fx.andV, Fx.orV, Fx.notV, Fx.andB, Fx.orB, Fx.notB, Fx.iteV, Fx.isi, Fx.tyM, Fx.isT, Fx.dsp, Fx.itf, Fx.itm, Fx.pass, Fx.ite_ap, g_in_range, b_in_range, e2, intP, suitP]
    simp [Fx.bodyD, Fx.ent, Fx.seqS, Fx.ifS, Fx.ret, Fx.set, Fx.drop, Fx.asg, Fx.lft, Fx.bd, Fx.pur, Fx.opt, Fx.tst, Fx.asB, Fx.bin, Fx.getv, Fx.cns, Fx.cal, Fx.un, Fx.andV, Fx.orV, Fx.notV, Fx.andB, Fx.orB, Fx.notB, Fx.iteV, Fx.isi, Fx.tyM, Fx.isT, Fx.dsp, Fx.itf, Fx.itm, Fx.pass, Fx.ite_ap, g_could_suit, b_could_suit, l, r]
theorem law_suit_ok {n : Nat} {k v : D} (S : Store) (hk : kindP k = true) (hv : gd n v = true) : g_law_value_ok [k, v] S = .ok (.bl (suitP k v)) S := by
  have e2 := law_integer_ok S hv
  rcases kind_cases hk with ⟨x, rfl, _⟩ | ⟨a, b, rfl, hab⟩
  · cases v <;> first
      | (simp [gd] at hv; done)
      | skip
    case int i =>
      by_cases h1 : 0 ≤ i <;> simp [Fx.bodyD, Fx.ent, Fx.seqS, Fx.ifS, Fx.ret, Fx.set, Fx.drop, Fx.asg, Fx.lft, Fx.bd, Fx.pur, Fx.opt, Fx.tst, Fx.asB, Fx.bin, Fx.getv, Fx.cns, Fx.cal, Fx.un, Fx.andV, Fx.orV, Fx.notV, Fx.andB, Fx.orB, Fx.notB, Fx.iteV, Fx.isi, Fx.tyM, Fx.isT, Fx.dsp, Fx.itf, Fx.itm, Fx.pass, Fx.ite_ap, g_law_value_ok, b_law_value_ok, isD_non, isNon, e2, intP, geD, h1, suitP, numP]
    all_goals simp [Fx.bodyD, Fx.ent, Fx.seqS, Fx.ifS, Fx.ret, Fx.set, Fx.drop, Fx.asg, Fx.lft, Fx.bd, Fx.pur, Fx.opt, Fx.tst, Fx.asB, Fx.bin, Fx.getv, Fx.cns, Fx.cal, Fx.un, Fx.andV, Fx.orV, Fx.notV, Fx.andB, Fx.orB, Fx.notB, Fx.iteV, Fx.isi, Fx.tyM, Fx.isT, Fx.dsp, Fx.itf, Fx.itm, Fx.pass, Fx.ite_ap, g_law_value_ok, b_law_value_ok, isD_non, isNon, e2, intP, suitP, numP]
  · cases v <;> first
      | (simp [gd] at hv; done)
      | skip
    case int i =>
      by_cases h1 : a ≤ i
      · by_cases h2 : i ≤ b <;> simp [Fx.bodyD, Fx.ent, Fx.seqS, Fx.ifS, Fx.ret, Fx.set, Fx.drop, Fx.asg, Fx.lft, Fx.bd, Fx.pur, Fx.opt, Fx.tst, Fx.asB, Fx.bin, Fx.getv, Fx.cns, Fx.cal, Fx.un, Fx.andV, Fx.orV, Fx.notV, Fx.andB, Fx.orB, Fx.notB, Fx.iteV, Fx.isi, Fx.tyM, Fx.isT, Fx.dsp, Fx.itf, Fx.itm, Fx.pass, Fx.ite_ap, g_law_value_ok, b_law_value_ok, e2, intP, chn, ix20, ix21, leD, h1, h2, suitP]
      · simp [Fx.bodyD, Fx.ent, Fx.seqS, Fx.ifS, Fx.ret, Fx.set, Fx.drop, Fx.asg, Fx.lft, Fx.bd, Fx.pur, Fx.opt, Fx.tst, Fx.asB, Fx.bin, Fx.getv, Fx.cns, Fx.cal, Fx.un, Fx.andV, Fx.orV, Fx.notV, Fx.andB, Fx.orB, Fx.notB, Fx.iteV, Fx.isi, Fx.tyM, Fx.isT, Fx.dsp, Fx.itf, Fx.itm, Fx.pass, Fx.ite_ap, g_law_value_ok, b_law_value_ok, e2, intP, chn, ix20, ix21, leD, h1, suitP]
    all_goals simp [Fx.bodyD, Fx.ent, Fx.seqS, Fx.ifS, Fx.ret, Fx.set, Fx.drop, Fx.asg, Fx.lft, Fx.bd, Fx.pur, Fx.opt, Fx.tst, Fx.asB, Fx.bin, Fx.getv, Fx.cns, Fx.cal, Fx.un, Fx.andV, Fx.orV, Fx.notV, Fx.andB, Fx.orB, Fx.notB, Fx.iteV, Fx.isi, Fx.tyM, Fx.isT, Fx.dsp, Fx.itf, Fx.itm, Fx.pass, Fx.ite_ap, g_law_value_ok, b_law_value_ok, e2, intP, suitP]
end K03

end
/-! ## K03q -/
section
namespace K03
variable [Fx.Tabl]
open PySem Fx
open L2 (atI ixN Key)
theorem ixTn {vs : List D} {j : Nat} {v : D} {S : Store} (h : vs[j]? = some v) : ixD (.tup vs) (.int (j : Nat)) S = .ok v S := by
  simp only [ixD, seqLT, bd, pur, atI_nat (Fx.lt_of_some h), h, opt]
theorem lenT {ds : List D} {S : Store} : lenD [.tup ds] S = .ok (.int ds.length) S := rfl
def badV (f : List (Str × D)) (vs : List D) (k j : Nat) : Option Flt := match f[j]?, vs[j]? with
  | some q, some v => if suitP q.2 v = true then none else some ("value", .tup [.int k, .int j])
  | _, _ => none
def obF (sc : List Form) (k : Nat) (o : Ob) : Option Flt := match formOf sc o.2.1 with
  | none => some ("class", .int k)
  | some f => if o.2.2.length = f.length then firstN (badV f o.2.2 k) 0 f.length else some ("many", .int k)
structure ScOk (n : Nat) (sc : List Form) : Prop where
  nm : ∀ f ∈ sc, gd n (.str f.1) = true
  kd : ∀ f ∈ sc, ∀ q ∈ f.2, kindP q.2 = true
  ln : ∀ f ∈ sc, f.2.length ≤ big
abbrev outE (S : Store) : Option Flt → Rs D
  | none => .ok .non S
  | some r => .ex (paper r) S
theorem sz1 : 1 ≤ sizeLine := by decide
theorem sz2 : 2 ≤ sizeLine := by decide
theorem sz3 : 3 ≤ sizeLine := by decide
theorem sz4 : 4 ≤ sizeLine := by decide
theorem body_ex {n m : Nat} {b : Fx.Env → MS} {ds : List D} {S S' : Store} {e : Ex} {env : Fx.Env} (hm : ds.length = m) (h : b (ent n ds) S = .ex e env S') : bodyD n m b ds S = .ex e S' := by
  simp only [bodyD, if_pos hm, h]
theorem body_nx {n m : Nat} {b : Fx.Env → MS} {ds : List D} {S S' : Store} {env : Fx.Env} (hm : ds.length = m) (h : b (ent n ds) S = .ok (.nx env) S') : bodyD n m b ds S = .ok .non S' := by
  simp only [bodyD, if_pos hm, h]
theorem seq_ex {g g' : Fx.Env → MS} {env env' : Fx.Env} {S S' : Store} {e : Ex} (h : g env S = .ex e env' S') : seqS g g' env S = .ex e env' S' := by
  simp only [seqS, h]
def tEnu : D → Fx.Env → Option Fx.Env := toTup (toCons (toN 7) (toCons (toTup (toCons (toN 3) (toCons (toN 8) toNil))) toNil))
def bVal : Fx.Env → MS := ifS (notB (tst (cal (cns (getv 8) (cns (bin ixD (getv 5) (getv 7)) (fun _ => pur []))) g_could_suit))) (rz2 "InvalidPaper" "word" "at" (cns (fun _ => pur (.str "value")) (cns (dsp mkT (cns (getv 1) (cns (getv 7) (fun _ => pur [])))) (fun _ => pur [])))) pass
theorem check_object_ok {n k : Nat} {sc : List Form} {o : Ob} (S : Store) (h : ScOk n sc) (ho : Ok n (obD o)) : g_check_object [.tup (sc.map frow), .int k, obD o] S = outE S (obF sc k o) := by
  obtain ⟨m, c, vs⟩ := o
  have hc : gd n (.str c) = true := ho.e1.g
  have hv : ∀ v ∈ vs, gd n v = true := fun v hv => (ho.e2.row hv).g
  have e1 := form_of_ok S hc h.nm
  let sd : D := .tup (sc.map frow)
  let od : D := .tup [.int m, .str c, .tup vs]
  have s1 : asg (getv 2) (toTup (toCons (toN 3) (toCons (toN 4) (toCons (toN 5) toNil)))) [some sd, some (.int k), some od, none, none, none, none, none, none] S = .ok (.nx [some sd, some (.int k), some od, some (.int m), some (.str c), some (.tup vs), none, none, none]) S := rfl
  have s2 := set_ok (i := 6) (f := cal (cns (getv 0) (cns (getv 4) (fun _ => pur []))) g_form_of) (env := [some sd, some (.int k), some od, some (.int m), some (.str c), some (.tup vs), none, none, none]) ((cal2_ok (getv_ok rfl) (getv_ok rfl)).trans e1)
  show g_check_object [sd, .int k, od] S = _
  cases hf : formOf sc c with
  | none =>
    simp only [hf] at s2
    simp only [obF, hf, outE]
    refine body_ex rfl ((seq_nx s1).trans ((seq_nx s2).trans (seq_ex (ifS_t (tst_ok ((bink (getv_ok rfl)).trans rfl))))))
  | some f =>
    simp only [hf] at s2
    simp only [obF, hf]
    have hfm := formOf_mem hf
    have hfl : f.length ≤ big := h.ln _ hfm
    let env6 : Fx.Env := [some sd, some (.int k), some od, some (.int m), some (.str c), some (.tup vs), some (.tup (f.map row)), none, none]
    have s3 : ifS (tst (bin isD (getv 6) (fun _ => pur .non))) (rz2 "InvalidPaper" "word" "at" (cns (fun _ => pur (.str "class")) (cns (getv 1) (fun _ => pur [])))) pass env6 S = .ok (.nx env6) S := (ifS_f (tst_ok ((bink (getv_ok rfl)).trans rfl))).trans rfl
    have c4 := tst_ok ((bin_ok (g := neD) ((cal1_ok (getv_ok (i := 5) (env := env6) (S := S) rfl)).trans lenT) ((cal1_ok (getv_ok (i := 6) rfl)).trans lenT)).trans (neD_int (vs.length : Int) ((f.map row).length : Int) S))
    by_cases hl : vs.length = f.length
    · rw [if_pos hl]
      have hb : (!((vs.length : Int) == ((f.map row).length : Int))) = false := by simp [hl]
      rw [hb] at c4
      have L := loop_fault (t := tEnu) (b := bVal) (S := S) (fun _ env => ∃ z3 z7 z8, env = [some sd, some (.int k), some od, z3, some (.str c), some (.tup vs), some (.tup (f.map row)), z7, z8]) (badV f vs k) (finE S) finE_ok (enuP 0 (f.map row)) 0 env6 ⟨_, _, _, rfl⟩ (by
        rintro j d env hd ⟨z3, z7, z8, rfl⟩
        rw [enuP_get, List.getElem?_map] at hd
        obtain ⟨q, hq, rfl⟩ : ∃ q, f[j]? = some q ∧ D.utp [.int ((0 + j : Nat) : Int), row q] = d := by
          cases e : f[j]? with
          | none => rw [e] at hd; cases hd
          | some q => rw [e] at hd; exact ⟨q, rfl, Option.some.inj hd⟩
        have hj : j < vs.length := by rw [hl]; exact Fx.lt_of_some hq
        have hvj : vs[j]? = some vs[j] := List.getElem?_eq_getElem hj
        have e3 := suit_ok S (h.kd _ hfm q (List.mem_of_getElem? hq)) (hv _ (List.getElem_mem hj))
        rw [Nat.zero_add]
        refine ⟨[some sd, some (.int k), some od, some (.str q.1), some (.str c), some (.tup vs), some (.tup (f.map row)), some (.int j), some q.2], rfl, ?_⟩
        have c5 := notB_ok (tst_ok ((cal2_ok (f1 := getv 8) (f2 := bin ixD (getv 5) (getv 7)) (env := [some sd, some (.int k), some od, some (.str q.1), some (.str c), some (.tup vs), some (.tup (f.map row)), some (.int j), some q.2]) (getv_ok rfl) ((bin_ok (getv_ok rfl) (getv_ok rfl)).trans (ixTn hvj))).trans e3))
        simp only [badV, hq, hvj]
        cases hs : suitP q.2 vs[j] with
        | true =>
          rw [hs] at c5
          exact ⟨_, (ifS_f c5).trans rfl, _, _, _, rfl⟩
        | false =>
          rw [hs] at c5
          exact ⟨_, (ifS_t c5).trans rfl⟩)
      have hlen : (enuP 0 (f.map row)).length = f.length := by rw [enuP_len, List.length_map]
      rw [hlen] at L
      have pre : ∀ x, loop tEnu bVal (enuP 0 (f.map row)) env6 S = x → b_check_object (ent 9 [sd, .int k, od]) S = x := fun x hx =>
        (seq_nx s1).trans ((seq_nx s2).trans ((seq_nx s3).trans ((seq_nx ((ifS_f c4).trans rfl)).trans ((for_ok rfl).trans hx))))
      cases e : firstN (badV f vs k) 0 f.length with
      | none =>
        rw [e] at L
        obtain ⟨env', L, _⟩ := L
        exact body_nx rfl (pre _ L)
      | some r =>
        rw [e] at L
        obtain ⟨env', L⟩ := L
        exact body_ex rfl (pre _ L)
    · rw [if_neg hl]
      have hb : (!((vs.length : Int) == ((f.map row).length : Int))) = true := by
        rw [Bool.not_eq_true', beq_eq_false_iff_ne, List.length_map]; omega
      rw [hb] at c4
      exact body_ex rfl ((seq_nx s1).trans ((seq_nx s2).trans ((seq_nx s3).trans (seq_ex (ifS_t c4)))))
end K03

end
/-! ## K03r -/
section
namespace K03
variable [Fx.Tabl]
open PySem Fx
open L2 (atI ixN Key)
/-! ### links -/
theorem compD_eq {t : D → Fx.Env → Option Fx.Env} {kx vx : Fx.Env → M D} {env0 : Fx.Env} {S : Store} {α : Type} (g : α → D) (kv : α → Key × D) : ∀ (ds : List α) (acc : List (Key × D)), acc.length + ds.length ≤ sizeLine →
    (∀ a ∈ ds, ∃ env1 y, t (g a) env0 = some env1 ∧ kx env1 S = .ok y S ∧ keyOf y = some (kv a).1 ∧ vx env1 S = .ok (kv a).2 S) →
    compD t (fun _ => pur true) kx vx env0 (ds.map g) acc S = .ok (.obj S.length) (S ++ [some (.dct (mergeD acc (ds.map kv)))])
  | [], acc, _, _ => rfl
  | a :: ds, acc, hl, h => by
    obtain ⟨env1, y, h1, h2, h3, h4⟩ := h a (by simp)
    rw [List.map_cons]
    unfold compD
    have hlt : acc.length < sizeLine := by simp at hl; omega
    simp only [h1, bdN, pur, if_true, h2, h4, h3, opt, if_pos hlt]
    have := putD_len acc (kv a).1 (kv a).2
    exact compD_eq g kv ds _ (by simp at hl; omega) fun b hb => h b (List.mem_cons_of_mem _ hb)
abbrev okv (o : Ob) : Key × D := (.inl o.1, .str o.2.1)
abbrev kvsP (os : List Ob) : List (Key × D) := mergeD [] (os.map okv)
theorem valD_in {kvs : List (Key × D)} {k : Key} {d : D} (h : valD kvs k = some d) : (k, d) ∈ kvs := by
  unfold valD at h
  obtain ⟨⟨k', d'⟩, h1, rfl⟩ := Option.map_eq_some_iff.mp h
  have h2 := List.find?_some h1
  simp only [decide_eq_true_eq] at h2
  subst h2
  exact List.mem_of_find?_eq_some h1
theorem kvs_str {os : List Ob} {k : Key} {d : D} (h : valD (kvsP os) k = some d) : ∃ o ∈ os, d = .str o.2.1 := by
  have := (mergeD_mem (valD_in h)).resolve_left (by simp)
  obtain ⟨o, ho, e⟩ := List.mem_map.mp this
  exact ⟨o, ho, by cases e; rfl⟩
def lkBad (kvs : List (Key × D)) (kind v : D) : Bool := match kind, v with
  | .str x, .int i => (match valD kvs (.inl i) with
    | some (.str y) => !decide (y = x)
    | _ => true)
  | _, _ => false
def badK (kvs : List (Key × D)) (f : List (Str × D)) (vs : List D) (k j : Nat) : Option Flt := match f[j]?, vs[j]? with
  | some q, some v => if lkBad kvs q.2 v = true then some ("link", .tup [.int k, .int j]) else none
  | _, _ => none
def badL (sc : List Form) (os : List Ob) (k : Nat) : Option Flt := match os[k]? with
  | none => none
  | some o => match formOf sc o.2.1 with
    | none => none
    | some f => firstN (badK (kvsP os) f o.2.2 k) 0 f.length
theorem look_ok {n i : Nat} {env : Fx.Env} {f2 : Fx.Env → M D} {S : Store} {os : List Ob} {v : Int} {p : Nat} (hi : env[i]? = some (some (.obj p))) (hp : S[p]? = some (some (.dct (kvsP os)))) (h2 : f2 env S = .ok (.int v) S) :
    get1 (getv i) f2 env S = .ok ((valD (kvsP os) (.inl v)).getD .non) S := by
  have g : getv i env S = .ok (.obj p) S := getv_ok hi
  simp only [get1, bd, g, objK, hp, h2, keyOf, opt, pur]
theorem ne_look {n : Nat} {os : List Ob} {v : Int} {x : Str} {S : Store} (hos : ∀ o ∈ os, gd n (.str o.2.1) = true) (hx : gd n (.str x) = true) :
    neD ((valD (kvsP os) (.inl v)).getD .non) (.str x) S = .ok (.bl (lkBad (kvsP os) (.str x) (.int v))) S := by
  simp only [lkBad]
  cases e : valD (kvsP os) (.inl v) with
  | none => exact neD_nonstr hx
  | some d =>
    obtain ⟨o, ho, rfl⟩ := kvs_str e
    exact neD_str (hos o ho) hx
/-- the condition of a wrong link, in both texts -/
theorem lk_cond {n p iv ij iK ic : Nat} {env : Fx.Env} {S : Store} {os : List Ob} {fl fv : Fx.Env → M D} {kind v : D} (hos : ∀ o ∈ os, gd n (.str o.2.1) = true) (hk : kindP kind = true) (hg : gd n kind = true) (hs : suitP kind v = true)
    (hp : S[p]? = some (some (.dct (kvsP os)))) (hc : env[ic]? = some (some (.obj p))) (hK : env[iK]? = some (some kind)) (hv : fv env S = .ok v S) (hl : fl env S = .ok (.bl (isStr kind)) S) :
    andB (tst fl) (andB (tst (bin isntD fv (fun _ => pur .non))) (tst (bin neD (get1 (getv ic) fv) (getv iK)))) env S = .ok (lkBad (kvsP os) kind v) S := by
  have c1 := tst_ok hl
  have c2 := tst_ok ((bink (g := isntD) (d := .non) hv).trans (isntD_non v S))
  rcases kind_cases hk with ⟨x, rfl, _⟩ | ⟨a, b, rfl, _⟩
  · cases v <;> first
      | (simp [suitP, isNon, numP] at hs; done)
      | skip
    case non =>
      exact (and_tt c1).trans (and_ff c2)
    case int i =>
      have c3 := tst_ok ((bin_ok (g := neD) (look_ok (n := n) (os := os) hc hp hv) (getv_ok hK)).trans (ne_look hos hg))
      exact (and_tt c1).trans ((and_tt c2).trans c3)
  · exact (and_ff c1).trans (by cases v <;> rfl)
def tIn : D → Fx.Env → Option Fx.Env := toTup (toCons (toN 8) (toCons (toTup (toCons (toN 5) (toCons (toN 9) toNil))) toNil))
def bIn : Fx.Env → MS := ifS (andB (tst (cal (cns (getv 9) (fun _ => pur [])) g_is_link)) (andB (tst (bin isntD (bin ixD (getv 7) (getv 8)) (fun _ => pur .non))) (tst (bin neD (get1 (getv 2) (bin ixD (getv 7) (getv 8))) (getv 9))))) (rz2 "InvalidPaper" "word" "at" (cns (fun _ => pur (.str "link")) (cns (dsp mkT (cns (getv 6) (cns (getv 8) (fun _ => pur [])))) (fun _ => pur [])))) pass
def tOut : D → Fx.Env → Option Fx.Env := toTup (toCons (toN 6) (toCons (toTup (toCons (toN 5) (toCons (toN 4) (toCons (toN 7) toNil)))) toNil))
def bOut : Fx.Env → MS := forS (itEn (cns (cal (cns (getv 0) (cns (getv 4) (fun _ => pur []))) g_form_of) (fun _ => pur []))) tIn bIn
/-- all that is known of a store of objects without a fault -/
structure ObsOk (n : Nat) (sc : List Form) (os : List Ob) : Prop where
  s : ScOk n sc
  kg : ∀ f ∈ sc, ∀ q ∈ f.2, gd n q.2 = true
  ob : ∀ o ∈ os, Ok n (obD o)
  ft : ∀ o ∈ os, ∃ f, formOf sc o.2.1 = some f ∧ o.2.2.length = f.length ∧ ∀ (j : Nat) (q : Str × D) (v : D), f[j]? = some q → o.2.2[j]? = some v → suitP q.2 v = true
theorem map_get {α β : Type} {f : α → β} {xs : List α} {j : Nat} {y : β} (h : (xs.map f)[j]? = some y) : ∃ x, xs[j]? = some x ∧ f x = y := by
  rw [List.getElem?_map] at h
  cases e : xs[j]? with
  | none => rw [e] at h; cases h
  | some x => rw [e] at h; exact ⟨x, rfl, Option.some.inj h⟩
theorem enu_get {α : Type} {f : α → D} {xs : List α} {j : Nat} {y : D} (h : (enuP 0 (xs.map f))[j]? = some y) : ∃ x, xs[j]? = some x ∧ y = .utp [.int (j : Nat), f x] := by
  rw [enuP_get, Nat.zero_add] at h
  obtain ⟨z, h1, h2⟩ := Option.map_eq_some_iff.mp h
  obtain ⟨x, h3, rfl⟩ := map_get h1
  exact ⟨x, h3, h2.symm⟩
theorem is_link_ok {n : Nat} {k : D} {S : Store} (h : gd n k = true) : g_is_link [k] S = .ok (.bl (isStr k)) S := by
  cases k <;> first
    | (simp [gd] at h; done)
    | simp [Fx.bodyD, Fx.ent, Fx.seqS, Fx.ifS, Fx.ret, Fx.set, Fx.drop, Fx.asg, Fx.lft, Fx.bd, Fx.pur, Fx.opt, Fx.tst, Fx.asB, Fx.bin, Fx.getv, Fx.cns, Fx.cal, Fx.un, Fx.andV, Fx.orV, Fx.notV, Fx.andB, Fx.orB, Fx.notB, Fx.iteV, Fx.isi, Fx.tyM, Fx.isT, Fx.dsp, Fx.itf, Fx.itm, Fx.pass, Fx.ite_ap, g_is_link, b_is_link, isStr]
theorem check_links_ok {n : Nat} {sc : List Form} {os : List Ob} (S : Store) (h : ObsOk n sc os) (hl : os.length ≤ big) :
    match firstN (badL sc os) 0 os.length with
      | none => ∃ S', g_check_links [.tup (sc.map frow), .tup (os.map obD)] S = .ok .non S'
      | some r => ∃ S', g_check_links [.tup (sc.map frow), .tup (os.map obD)] S = .ex (paper r) S' := by
  let sd : D := .tup (sc.map frow)
  let od : D := .tup (os.map obD)
  let S1 : Store := S ++ [some (.dct (kvsP os))]
  have hp : S1[S.length]? = some (some (.dct (kvsP os))) := by simp [S1]
  have hos : ∀ o ∈ os, gd n (.str o.2.1) = true := fun o ho => (h.ob o ho).e1.g
  have c1 := compD_eq (t := toTup (toCons (toN 3) (toCons (toN 4) (toCons (toN 5) toNil)))) (kx := getv 3) (vx := getv 4) (env0 := wipeE [some sd, some od, none, none, none, none, none, none, none, none] [3, 4, 5]) (S := S) obD okv os [] (by simp; exact Nat.le_trans hl big_le) (by
    rintro ⟨m, c, vs⟩ ho
    exact ⟨_, _, rfl, getv_ok rfl, rfl, getv_ok rfl⟩)
  have s1 := set_ok (i := 2) (f := cmd [3, 4, 5] (itf (getv 1)) (toTup (toCons (toN 3) (toCons (toN 4) (toCons (toN 5) toNil)))) (fun _ => pur true) (getv 3) (getv 4)) (env := [some sd, some od, none, none, none, none, none, none, none, none]) (S := S) (S' := S1) (d := .obj S.length) c1
  let env1 : Fx.Env := [some sd, some od, some (.obj S.length), none, none, none, none, none, none, none]
  have L := loop_fault (t := tOut) (b := bOut) (S := S1) (fun _ env => ∃ z3 z4 z5 z6 z7 z8 z9, env = [some sd, some od, some (.obj S.length), z3, z4, z5, z6, z7, z8, z9]) (badL sc os) (finE S1) finE_ok (enuP 0 (os.map obD)) 0 env1 ⟨_, _, _, _, _, _, _, rfl⟩ (by
    rintro k d env hd ⟨z3, z4, z5, z6, z7, z8, z9, rfl⟩
    obtain ⟨o, ho, rfl⟩ := enu_get hd
    rw [Nat.zero_add]
    have hom := List.mem_of_getElem? ho
    obtain ⟨f, hf, hfl, hsu⟩ := h.ft o hom
    have hfm := formOf_mem hf
    let env2 : Fx.Env := [some sd, some od, some (.obj S.length), z3, some (.str o.2.1), some (.int o.1), some (.int k), some (.tup o.2.2), z8, z9]
    refine ⟨env2, rfl, ?_⟩
    have e1 := form_of_ok S1 (hos o hom) h.s.nm
    rw [hf] at e1
    have e2 : itEn (cns (cal (cns (getv 0) (cns (getv 4) (fun _ => pur []))) g_form_of) (fun _ => pur [])) env2 S1 = .ok (enuP 0 (f.map row)) S1 := by
      have q := (cal2_ok (f1 := getv 0) (f2 := getv 4) (env := env2) (getv_ok rfl) (getv_ok rfl)).trans e1
      simp only [itEn, cns, bd] at q ⊢
      simp only [q, pur, enuM]
    have L2 := loop_fault (t := tIn) (b := bIn) (S := S1) (fun _ env => ∃ z3 z5 z8 z9, env = [some sd, some od, some (.obj S.length), z3, some (.str o.2.1), z5, some (.int k), some (.tup o.2.2), z8, z9]) (badK (kvsP os) f o.2.2 k) (finE S1) finE_ok (enuP 0 (f.map row)) 0 env2 ⟨_, _, _, _, rfl⟩ (by
      rintro j d env hd ⟨z3, z5, z8, z9, rfl⟩
      obtain ⟨q, hq, rfl⟩ := enu_get hd
      rw [Nat.zero_add]
      have hj : j < o.2.2.length := by rw [hfl]; exact Fx.lt_of_some hq
      have hvj : o.2.2[j]? = some o.2.2[j] := List.getElem?_eq_getElem hj
      have hqm := List.mem_of_getElem? hq
      let env3 : Fx.Env := [some sd, some od, some (.obj S.length), z3, some (.str o.2.1), some (.str q.1), some (.int k), some (.tup o.2.2), some (.int j), some q.2]
      refine ⟨env3, rfl, ?_⟩
      have c := lk_cond (n := n) (p := S.length) (iK := 9) (ic := 2) (env := env3) (S := S1) (fl := cal (cns (getv 9) (fun _ => pur [])) g_is_link) (fv := bin ixD (getv 7) (getv 8)) (iv := 0) (ij := 0) hos (h.s.kd _ hfm q hqm) (h.kg _ hfm q hqm) (hsu j q _ hq hvj) hp rfl rfl ((bin_ok (getv_ok rfl) (getv_ok rfl)).trans (ixTn hvj)) ((cal1_ok (getv_ok rfl)).trans (is_link_ok (h.kg _ hfm q hqm)))
      simp only [badK, hq, hvj]
      cases hb : lkBad (kvsP os) q.2 o.2.2[j] with
      | true =>
        rw [hb] at c
        exact ⟨_, (ifS_t c).trans rfl⟩
      | false =>
        rw [hb] at c
        exact ⟨_, (ifS_f c).trans rfl, _, _, _, _, rfl⟩)
    rw [enuP_len, List.length_map] at L2
    have hB : badL sc os k = firstN (badK (kvsP os) f o.2.2 k) 0 f.length := by simp only [badL, ho, hf]
    rw [hB]
    cases e : firstN (badK (kvsP os) f o.2.2 k) 0 f.length with
    | none =>
      rw [e] at L2
      obtain ⟨env', L2, z3, z5, z8, z9, rfl⟩ := L2
      exact ⟨_, (for_ok e2).trans L2, _, _, _, _, _, _, _, rfl⟩
    | some r =>
      rw [e] at L2
      obtain ⟨env', L2⟩ := L2
      exact ⟨env', (for_ok e2).trans L2⟩)
  rw [enuP_len, List.length_map] at L
  have pre : ∀ x, loop tOut bOut (enuP 0 (os.map obD)) env1 S1 = x → b_check_links (ent 10 [sd, od]) S = x := fun x hx =>
    (seq_nx s1).trans ((for_ok rfl).trans hx)
  cases e : firstN (badL sc os) 0 os.length with
  | none =>
    rw [e] at L
    obtain ⟨env', L, _⟩ := L
    exact ⟨_, body_nx rfl (pre _ L)⟩
  | some r =>
    rw [e] at L
    obtain ⟨env', L⟩ := L
    exact ⟨_, body_ex rfl (pre _ L)⟩
end K03

end
/-! ## K03s -/
section
namespace K03
variable [Fx.Tabl]
open PySem Fx
open L2 (atI ixN Key)
/-! ### a value of the shape -/
abbrev stD (sc : List Form) (lim : Int) (os : List Ob) : D := .tup [.tup (sc.map frow), .int lim, .tup (os.map obD)]
theorem list_as {α : Type} {p : D → Prop} {g : α → D} (h : ∀ d, p d → ∃ a, g a = d) : ∀ {ds : List D}, (∀ d ∈ ds, p d) → ∃ as : List α, as.map g = ds
  | [], _ => ⟨[], rfl⟩
  | d :: ds, hp => by
    obtain ⟨a, rfl⟩ := h d (hp d (by simp))
    obtain ⟨as, rfl⟩ := list_as h (ds := ds) fun d hd => hp d (List.mem_cons_of_mem _ hd)
    exact ⟨a :: as, rfl⟩
theorem row_as {r : D} (h : rowP r = true) : ∃ o : Ob, obD o = r := by
  unfold rowP at h
  split at h
  · rename_i a b c
    simp only [Bool.and_eq_true] at h
    obtain ⟨⟨h1, h2⟩, h3⟩ := h
    cases a <;> simp [numP] at h1
    have := nameP_str h2
    cases c <;> simp [isTup] at h3
    rename_i i vs
    exact ⟨(i, sD b, vs), by rw [obD, ← this]⟩
  · cases h
theorem form_as {b : D} (h : formP b = true) : ∃ f : List (Str × D), .tup (f.map row) = b := by
  have hn : namedP b = true := by simp [formP] at h; exact h.1
  obtain ⟨es, rfl, he⟩ := namedP_inv hn
  obtain ⟨f, rfl⟩ := list_as (p := fun r => ∃ x b, r = .tup [.str x, b]) (g := row) (fun d ⟨x, b, e⟩ => ⟨(x, b), e.symm⟩) he
  exact ⟨f, rfl⟩
theorem form_kinds {f : List (Str × D)} (h : formP (.tup (f.map row)) = true) : ∀ q ∈ f, kindP q.2 = true := fun q hq => by
  simp only [formP, Bool.and_eq_true, List.all_eq_true] at h
  exact h.2 (row q) (List.mem_map.mpr ⟨q, hq, rfl⟩)
theorem schema_as {d : D} (h : schemaP d = true) : ∃ sc : List Form, d = .tup (sc.map frow) ∧ (∀ f ∈ sc, formP (.tup (f.2.map row)) = true) ∧ ascS (sc.map (·.1)) = true := by
  have h0 := h
  simp only [schemaP, Bool.and_eq_true] at h
  obtain ⟨⟨⟨hn, _⟩, hf⟩, _⟩ := h
  obtain ⟨rows, rfl, hr⟩ := namedP_inv hn
  simp only [rowsOf, List.all_eq_true] at hf
  obtain ⟨sc, rfl⟩ := list_as (p := fun r => (∃ x b, r = .tup [.str x, b]) ∧ formP (sndD r) = true) (g := frow) (fun d ⟨⟨x, b, e⟩, hb⟩ => by
    subst e
    obtain ⟨f, hf⟩ := form_as hb
    exact ⟨(x, f), by rw [frow, hf]; rfl⟩) (ds := rows) fun r hr' => ⟨hr r hr', hf r hr'⟩
  refine ⟨sc, rfl, fun f hf' => hf (frow f) (List.mem_map.mpr ⟨f, hf', rfl⟩), ?_⟩
  simp only [namedP, Bool.and_eq_true, rowsOf] at hn
  have := hn.2
  rw [List.map_map] at this
  exact this
structure StOk (n : Nat) (sc : List Form) (lim : Int) (os : List Ob) : Prop where
  s : ScOk n sc
  kg : ∀ f ∈ sc, ∀ q ∈ f.2, gd n q.2 = true
  asc : ascS (sc.map (·.1)) = true
  ob : ∀ o ∈ os, Ok n (obD o)
  lo : os.length ≤ big
  ls : sc.length ≤ big
theorem shape_inv {n : Nat} {d : D} (h : Ok n d) (hs : shapeP d = true) : ∃ sc lim os, d = stD sc lim os ∧ StOk n sc lim os := by
  unfold shapeP at hs
  split at hs
  · rename_i a b os
    simp only [Bool.and_eq_true, List.all_eq_true] at hs
    obtain ⟨⟨h1, h2⟩, h3⟩ := hs
    obtain ⟨sc, rfl, f1, f2⟩ := schema_as h1
    obtain ⟨ob, rfl⟩ := list_as (p := fun r => rowP r = true) (g := obD) (fun d hd => row_as hd) h3
    cases b <;> simp [numP] at h2
    rename_i lim
    have fOk : ∀ f ∈ sc, Ok n (frow f) := fun f hf => h.e0.row (List.mem_map.mpr ⟨f, hf, rfl⟩)
    refine ⟨sc, lim, ob, rfl, ⟨⟨fun f hf => (fOk f hf).e0.g, fun f hf => form_kinds (f1 f hf), fun f hf => ?_⟩, fun f hf q hq => ?_, f2, fun o ho => h.e2.row (List.mem_map.mpr ⟨o, ho, rfl⟩), ?_, ?_⟩⟩
    · have := (fOk f hf).e1.len; simpa using this
    · exact ((fOk f hf).e1.row (r := row q) (List.mem_map.mpr ⟨q, hq, rfl⟩)).e1.g
    · have := h.e2.len; simpa using this
    · have := h.e0.len; simpa using this
  · cases hs
def bef (os : List Ob) : Nat → Int
  | 0 => -1
  | k + 1 => match os[k]? with
    | some o => o.1
    | none => -1
def badO (sc : List Form) (lim : Int) (os : List Ob) (k : Nat) : Option Flt := match os[k]? with
  | none => none
  | some o => if bef os k < o.1 ∧ o.1 < lim then obF sc k o else some ("number", .int k)
def faultS (sc : List Form) (lim : Int) (os : List Ob) : Option Flt := match firstN (badO sc lim os) 0 os.length with
  | some r => some r
  | none => firstN (badL sc os) 0 os.length
theorem obF_none {sc : List Form} {k : Nat} {o : Ob} (h : obF sc k o = none) : ∃ f, formOf sc o.2.1 = some f ∧ o.2.2.length = f.length ∧ ∀ (j : Nat) (q : Str × D) (v : D), f[j]? = some q → o.2.2[j]? = some v → suitP q.2 v = true := by
  unfold obF at h
  split at h
  · cases h
  · rename_i f hf
    split at h
    · rename_i hl
      refine ⟨f, hf, hl, fun j q v hq hv => ?_⟩
      have hj := Fx.lt_of_some hq
      have := firstN_none _ _ h j (Nat.zero_le _) (by omega)
      simp only [badV, hq, hv] at this
      split at this
      · assumption
      · cases this
    · cases h
theorem StOk.obs {n : Nat} {sc : List Form} {lim : Int} {os : List Ob} (h : StOk n sc lim os) (hn : firstN (badO sc lim os) 0 os.length = none) : ObsOk n sc os :=
  ⟨h.s, h.kg, h.ob, fun o ho => by
    obtain ⟨k, hk, rfl⟩ := List.mem_iff_getElem.mp ho
    have := firstN_none _ _ hn k (Nat.zero_le _) (by omega)
    simp only [badO, List.getElem?_eq_getElem hk] at this
    split at this
    · exact obF_none this
    · cases this⟩
def bObs : Fx.Env → MS := (seqS (ifS (notB (tst (chn ltD ltD (getv 4) (bin ixD (getv 6) (fun _ => pur (.int 0))) (getv 2)))) (rz2 "InvalidPaper" "word" "at" (cns (fun _ => pur (.str "number")) (cns (getv 5) (fun _ => pur [])))) pass)
  (seqS (drop (cal (cns (getv 1) (cns (getv 5) (cns (getv 6) (fun _ => pur [])))) g_check_object))
  (Fx.set 4 (bin ixD (getv 6) (fun _ => pur (.int 0))))))
theorem cal3_ok {f1 f2 f3 : Fx.Env → M D} {g : List D → M D} {env : Fx.Env} {S : Store} {a b c : D} (h1 : f1 env S = .ok a S) (h2 : f2 env S = .ok b S) (h3 : f3 env S = .ok c S) : cal (cns f1 (cns f2 (cns f3 (fun _ => pur [])))) g env S = g [a, b, c] S := by
  simp only [cal, cns, bd, h1, h2, h3, pur]
theorem drop_ok {f : Fx.Env → M D} {env : Fx.Env} {S S' : Store} {d : D} (h : f env S = .ok d S') : Fx.drop f env S = .ok (.nx env) S' := by simp only [Fx.drop, lft, h]
theorem drop_ex {f : Fx.Env → M D} {env : Fx.Env} {S S' : Store} {e : Ex} (h : f env S = .ex e S') : Fx.drop f env S = .ex e env S' := by simp only [Fx.drop, lft, h]
theorem chn_ok {a b c : Int} {f1 f2 f3 : Fx.Env → M D} {env : Fx.Env} {S : Store} (h1 : f1 env S = .ok (.int a) S) (h2 : f2 env S = .ok (.int b) S) (h3 : f3 env S = .ok (.int c) S) : chn ltD ltD f1 f2 f3 env S = .ok (.bl (decide (a < b ∧ b < c))) S := by
  by_cases h : a < b
  · simp [chn, bd, h1, h2, h3, ltD, pur, asB, h]
  · simp [chn, bd, h1, h2, ltD, pur, asB, h]
abbrev outP (sc : List Form) (os : List Ob) : D := .tup [.int sc.length, .int os.length]
theorem lets_plain_ok {n : Nat} {sc : List Form} {lim : Int} {os : List Ob} (S : Store) (h : StOk n sc lim os) (hd : Ok n (stD sc lim os)) (hs : shapeP (stD sc lim os) = true) :
    match faultS sc lim os with
      | none => ∃ S', g_lets_plain [stD sc lim os] S = .ok (outP sc os) S'
      | some r => ∃ S', g_lets_plain [stD sc lim os] S = .ex (paper r) S' := by
  let dd : D := stD sc lim os
  let sd : D := .tup (sc.map frow)
  let od : D := .tup (os.map obD)
  have e0 := has_shape_ok S hd
  rw [hs] at e0
  have s1 : ifS (notB (tst (cal (cns (getv 0) (fun _ => pur [])) g_has_shape))) (rz2 "InvalidPaper" "word" "at" (cns (fun _ => pur (.str "shape")) (cns (un negD (fun _ => pur (.int 1))) (fun _ => pur [])))) pass [some dd, none, none, none, none, none, none] S = .ok (.nx [some dd, none, none, none, none, none, none]) S :=
    (ifS_f (notB_ok (tst_ok ((cal1_ok (getv_ok rfl)).trans e0)))).trans rfl
  let env1 : Fx.Env := [some dd, some sd, some (.int lim), some od, some (.int (-1)), none, none]
  have L := loop_fault (t := toTup (toCons (toN 5) (toCons (toN 6) toNil))) (b := bObs) (S := S) (fun k env => ∃ z5 z6, env = [some dd, some sd, some (.int lim), some od, some (.int (bef os k)), z5, z6]) (badO sc lim os) (finE S) finE_ok (enuP 0 (os.map obD)) 0 env1 ⟨_, _, rfl⟩ (by
    rintro k d env hk ⟨z5, z6, rfl⟩
    obtain ⟨o, ho, rfl⟩ := enu_get hk
    rw [Nat.zero_add]
    have hom := List.mem_of_getElem? ho
    let env2 : Fx.Env := [some dd, some sd, some (.int lim), some od, some (.int (bef os k)), some (.int k), some (obD o)]
    refine ⟨env2, rfl, ?_⟩
    have c1 := notB_ok (tst_ok (chn_ok (f1 := getv 4) (f2 := bin ixD (getv 6) (fun _ => pur (.int 0))) (f3 := getv 2) (env := env2) (S := S) (a := bef os k) (b := o.1) (c := lim) (getv_ok rfl) ((bink (getv_ok rfl)).trans (ix30 _ _ _ S)) (getv_ok rfl)))
    simp only [badO, ho]
    by_cases hc : bef os k < o.1 ∧ o.1 < lim
    · rw [if_pos hc]
      rw [decide_eq_true hc] at c1
      have e3 := check_object_ok (k := k) S h.s (h.ob o hom)
      have e4 := (cal3_ok (f1 := getv 1) (f2 := getv 5) (f3 := getv 6) (env := env2) (S := S) (g := g_check_object) (getv_ok rfl) (getv_ok rfl) (getv_ok rfl)).trans e3
      cases hf : obF sc k o with
      | none =>
        rw [hf] at e4
        refine ⟨[some dd, some sd, some (.int lim), some od, some (.int o.1), some (.int k), some (obD o)], (seq_nx ((ifS_f c1).trans rfl)).trans ((seq_nx (drop_ok e4)).trans (set_ok ((bink (getv_ok rfl)).trans (ix30 _ _ _ S)))), some (.int k), some (obD o), ?_⟩
        simp only [bef, ho]
      | some r =>
        rw [hf] at e4
        exact ⟨_, (seq_nx ((ifS_f c1).trans rfl)).trans (seq_ex (drop_ex e4))⟩
    · rw [if_neg hc]
      rw [decide_eq_false hc] at c1
      exact ⟨_, seq_ex ((ifS_t c1).trans rfl)⟩)
  rw [enuP_len, List.length_map] at L
  have pre : ∀ {g : Fx.Env → MS} x, seqS (forS (itEn (cns (getv 3) (fun _ => pur []))) (toTup (toCons (toN 5) (toCons (toN 6) toNil))) bObs) g env1 S = x →
      seqS (asg (getv 0) (toTup (toCons (toN 1) (toCons (toN 2) (toCons (toN 3) toNil))))) (seqS (Fx.set 4 (un negD (fun _ => pur (.int 1)))) (seqS (forS (itEn (cns (getv 3) (fun _ => pur []))) (toTup (toCons (toN 5) (toCons (toN 6) toNil))) bObs) g)) [some dd, none, none, none, none, none, none] S = x := fun x hx => hx
  unfold faultS
  cases e : firstN (badO sc lim os) 0 os.length with
  | some r =>
    rw [e] at L
    obtain ⟨env', L⟩ := L
    exact ⟨S, body_ex rfl ((seq_nx s1).trans (pre _ (seq_ex ((for_ok rfl).trans L))))⟩
  | none =>
    rw [e] at L
    obtain ⟨env', L, z5, z6, rfl⟩ := L
    simp only
    have K := check_links_ok S (h.obs e) h.lo
    let env3 : Fx.Env := [some dd, some sd, some (.int lim), some od, some (.int (bef os (0 + os.length))), z5, z6]
    have pre2 : ∀ x, seqS (Fx.drop (cal (cns (getv 1) (cns (getv 3) (fun _ => pur []))) g_check_links)) (Fx.ret (dsp mkT (cns (cal (cns (getv 1) (fun _ => pur [])) lenD) (cns (cal (cns (getv 3) (fun _ => pur [])) lenD) (fun _ => pur []))))) env3 S = x → b_lets_plain (ent 7 [dd]) S = x := fun x hx =>
      (seq_nx s1).trans (pre _ ((seq_nx ((for_ok rfl).trans L)).trans hx))
    cases e2 : firstN (badL sc os) 0 os.length with
    | some r =>
      rw [e2] at K
      obtain ⟨S', K⟩ := K
      exact ⟨S', body_ex rfl (pre2 _ (seq_ex (drop_ex ((cal2_ok (getv_ok rfl) (getv_ok rfl)).trans K))))⟩
    | none =>
      rw [e2] at K
      obtain ⟨S', K⟩ := K
      refine ⟨S', body_rt rfl (pre2 _ ((seq_nx (drop_ok ((cal2_ok (getv_ok rfl) (getv_ok rfl)).trans K))).trans (ret_okS ?_)))⟩
      have a1 : cal (cns (getv 1) (fun _ => pur [])) lenD env3 S' = .ok (.int sc.length) S' := (cal1_ok (getv_ok rfl)).trans (by rw [lenT, List.length_map])
      have a2 : cal (cns (getv 3) (fun _ => pur [])) lenD env3 S' = .ok (.int os.length) S' := (cal1_ok (getv_ok rfl)).trans (by rw [lenT, List.length_map])
      simp only [dsp, cns, bd, a1, a2, pur]
      exact mkT_ok sz2
theorem lets_plain_bad {n : Nat} {d : D} (S : Store) (hd : Ok n d) (hs : shapeP d = false) : g_lets_plain [d] S = .ex (paper ("shape", .int (-1))) S := by
  have e0 := has_shape_ok S hd
  rw [hs] at e0
  exact body_ex rfl (seq_ex ((ifS_t (notB_ok (tst_ok ((cal1_ok (getv_ok rfl)).trans e0)))).trans rfl))
end K03

end
/-! ## K03t -/
section
namespace K03
variable [Fx.Tabl]
open PySem Fx
open L2 (atI ixN Key)
/-! ### the schema as a dict -/
theorem lt_tr {a b c : List Nat} (h : a < b) (g : b < c) : a < c := List.lt_trans h g
theorem asc_pair : ∀ {xs : List Str}, ascS xs = true → xs.Pairwise fun a b => a.cps.toList < b.cps.toList
  | [], _ => .nil
  | [x], _ => by simp
  | x :: y :: r, h => by
    have h1 : ltS x y = true ∧ ascS (y :: r) = true := by
      simp only [ascS, List.all_eq_true, List.mem_range] at h ⊢
      refine ⟨h 0 (by simp), fun k hk => ?_⟩
      have := h (k + 1) (by simp at hk ⊢; omega)
      simpa using this
    have ih := asc_pair h1.2
    have hxy : x.cps.toList < y.cps.toList := by simpa [ltS] using h1.1
    refine List.pairwise_cons.mpr ⟨fun z hz => ?_, ih⟩
    rcases List.mem_cons.mp hz with rfl | hz
    · exact hxy
    · exact lt_tr hxy ((List.pairwise_cons.mp ih).1 z hz)
theorem asc_nodup {xs : List Str} (h : ascS xs = true) : xs.Nodup := (asc_pair h).imp fun {a b} hab e => by
  subst e
  exact absurd hab (List.lt_irrefl _)
theorem putD_new {kvs : List (Key × D)} {k : Key} {d : D} (h : k ∉ kvs.map (·.1)) : putD kvs k d = kvs ++ [(k, d)] := by
  unfold putD
  rw [if_neg]
  intro z
  obtain ⟨kv, h1, h2⟩ := List.any_eq_true.mp z
  simp only [decide_eq_true_eq] at h2
  exact h (List.mem_map.mpr ⟨kv, h1, h2⟩)
theorem mergeD_nodup : ∀ (more acc : List (Key × D)), ((acc ++ more).map (·.1)).Nodup → mergeD acc more = acc ++ more
  | [], acc, _ => by simp [mergeD]
  | kv :: more, acc, h => by
    have h1 : kv.1 ∉ acc.map (·.1) := by
      simp only [List.map_append, List.map_cons, List.nodup_append, List.nodup_cons] at h
      intro z
      exact h.2.2 _ z _ (by simp) rfl
    show mergeD (putD acc kv.1 kv.2) more = _
    rw [putD_new h1, mergeD_nodup more _ (by simpa using h)]
    simp
abbrev fkv (f : Form) : Key × D := (.inr f.1, .tup (f.2.map row))
abbrev fkvs (sc : List Form) : List (Key × D) := mergeD [] (sc.map fkv)
theorem fkvs_eq {sc : List Form} (h : ascS (sc.map (·.1)) = true) : fkvs sc = sc.map fkv := by
  unfold fkvs
  rw [mergeD_nodup _ _ (by
    rw [List.nil_append, List.map_map]
    have := asc_nodup h
    rw [show ((fun kv : Key × D => kv.1) ∘ fkv) = (Sum.inr ∘ fun f : Form => f.1) from rfl, ← List.map_map]
    rw [List.Nodup, List.pairwise_map]
    exact this.imp fun h e => h (Sum.inr.inj e))]
  rfl
theorem valD_fkv (c : Str) : ∀ sc : List Form, valD (sc.map fkv) (.inr c) = (formOf sc c).map fun f => .tup (f.map row)
  | [] => rfl
  | f :: sc => by
    have ih := valD_fkv c sc
    rw [formOf_cons]
    unfold valD at ih ⊢
    rw [List.map_cons, List.find?_cons]
    by_cases h : f.1 = c
    · have : decide ((fkv f).1 = .inr c) = true := by simp [h]
      rw [this, if_pos h]; rfl
    · have : decide ((fkv f).1 = .inr c) = false := by simp [h]
      rw [this, if_neg h]; exact ih
theorem pairsK_frow (sc : List Form) : pairsK (sc.map frow) = some (sc.map fkv) := by
  have := pairsK_map (sc.map fun f => (f.1, D.tup (f.2.map row)))
  rw [List.map_map, List.map_map] at this
  exact this
theorem dict_sc {sc : List Form} {S : Store} : dictD [.tup (sc.map frow)] S = .ok (.obj S.length) (S ++ [some (.dct (fkvs sc))]) := by
  have z2 : dictD [.tup (sc.map frow)] S = (bd (opt (pairsK (sc.map frow))) fun kvs => mkO (.dct (mergeD [] kvs))) S := rfl
  rw [z2]
  simp only [bd, pairsK_frow, opt, pur, mkO]
theorem dget_ok {i p : Nat} {env : Fx.Env} {f2 : Fx.Env → M D} {S : Store} {sc : List Form} {c : Str} {f : List (Str × D)} (ha : ascS (sc.map (·.1)) = true) (hi : env[i]? = some (some (.obj p))) (hp : S[p]? = some (some (.dct (fkvs sc)))) (h2 : f2 env S = .ok (.str c) S) (hf : formOf sc c = some f) :
    bin dgetD (getv i) f2 env S = .ok (.tup (f.map row)) S := by
  have g : getv i env S = .ok (.obj p) S := getv_ok hi
  rw [bin_ok g h2]
  simp only [dgetD, objK, bd, hp, keyOf, opt, pur, fkvs_eq ha, valD_fkv, hf, Option.map_some]
theorem din_ok {i j p : Nat} {env : Fx.Env} {S : Store} {sc : List Form} {c : Str} (ha : ascS (sc.map (·.1)) = true) (hi : env[i]? = some (some (.obj p))) (hp : S[p]? = some (some (.dct (fkvs sc)))) (h2 : env[j]? = some (some (.str c))) :
    bin (dinD true) (getv j) (getv i) env S = .ok (.bl (!(formOf sc c).isSome)) S := by
  rw [bin_ok (getv_ok h2) (getv_ok hi)]
  simp only [dinD, objK, bd, hp, keyOf, opt, pur, fkvs_eq ha, valD_fkv, if_true, Option.isSome_map]
theorem rng_get {n j : Nat} {d : D} (h : (rng 0 (n : Int))[j]? = some d) : d = .int j ∧ j < n := by
  unfold rng at h
  obtain ⟨k, h1, rfl⟩ := map_get h
  have hn : ((n : Int) - 0).toNat = n := by omega
  rw [hn] at h1
  have hj := Fx.lt_of_some h1
  rw [List.length_range] at hj
  rw [List.getElem?_range hj] at h1
  cases h1
  exact ⟨by rw [Int.zero_add], hj⟩
theorem rng_len (n : Nat) : (rng 0 (n : Int)).length = n := by simp [rng]
theorem itr1_len {f : Fx.Env → M D} {env : Fx.Env} {S : Store} {n : Nat} (h : f env S = .ok (.int n) S) (hn : n ≤ big) : itr1 (cns f (fun _ => pur [])) env S = .ok (rng 0 n) S := by
  refine itr1_ok ?_ ?_
  · simp only [cns, bd, h, pur]
  · have : (n : Int) ≤ 1048576 := by have : n ≤ 1048576 := hn; omega
    exact inR_of (by omega) (by omega)
def bLV : Fx.Env → MS := ifS (notB (tst (cal (cns (bin ixD (bin ixD (bin dgetD (getv 1) (getv 5)) (getv 7)) (fun _ => pur (.int 1))) (cns (bin ixD (getv 6) (getv 7)) (fun _ => pur []))) g_law_value_ok))) (Fx.ret (dsp mkT (cns (fun _ => pur (.str "value")) (cns (dsp mkT (cns (getv 3) (cns (getv 7) (fun _ => pur [])))) (fun _ => pur []))))) pass
def bLO : Fx.Env → MS := (seqS (asg (bin ixD (bin ixD (getv 0) (fun _ => pur (.int 2))) (getv 3)) (toTup (toCons (toN 4) (toCons (toN 5) (toCons (toN 6) toNil)))))
  (seqS (ifS (orB (tst (bin leD (getv 4) (getv 2))) (tst (bin geD (getv 4) (bin ixD (getv 0) (fun _ => pur (.int 1)))))) (Fx.ret (dsp mkT (cns (fun _ => pur (.str "number")) (cns (getv 3) (fun _ => pur []))))) pass)
  (seqS (ifS (tst (bin (dinD true) (getv 5) (getv 1))) (Fx.ret (dsp mkT (cns (fun _ => pur (.str "class")) (cns (getv 3) (fun _ => pur []))))) pass)
  (seqS (ifS (tst (bin neD (cal (cns (getv 6) (fun _ => pur [])) lenD) (cal (cns (bin dgetD (getv 1) (getv 5)) (fun _ => pur [])) lenD))) (Fx.ret (dsp mkT (cns (fun _ => pur (.str "many")) (cns (getv 3) (fun _ => pur []))))) pass)
  (seqS (forS (itr1 (cns (cal (cns (getv 6) (fun _ => pur [])) lenD) (fun _ => pur []))) (toN 7) bLV)
  (Fx.set 2 (getv 4)))))))
theorem or_t {f g : Fx.Env → M Bool} {env : Fx.Env} {S S' : Store} (h : f env S = .ok true S') : orB f g env S = .ok true S' := by simp [orB, bd, h, pur]
theorem or_f {f g : Fx.Env → M Bool} {env : Fx.Env} {S S' : Store} (h : f env S = .ok false S') : orB f g env S = g env S' := by simp [orB, bd, h]
theorem law_objects_ok {n : Nat} {sc : List Form} {lim : Int} {os : List Ob} (S : Store) (h : StOk n sc lim os) :
    ∃ S', g_law_objects_fault [stD sc lim os] S = .ok (match firstN (badO sc lim os) 0 os.length with | none => .non | some r => .tup [.str r.1, r.2]) S' := by
  let dd : D := stD sc lim os
  let sd : D := .tup (sc.map frow)
  let S1 : Store := S ++ [some (.dct (fkvs sc))]
  have hp : S1[S.length]? = some (some (.dct (fkvs sc))) := by simp [S1]
  let env1 : Fx.Env := [some dd, some (.obj S.length), some (.int (-1)), none, none, none, none, none]
  have a1 : cal (cns (bin ixD (getv 0) (fun _ => pur (.int 0))) (fun _ => pur [])) dictD [some dd, none, none, none, none, none, none, none] S = .ok (.obj S.length) S1 := (cal1_ok ((bink (getv_ok rfl)).trans (ix30 _ _ _ S))).trans dict_sc
  have s1 : par 1 2 (cns (cal (cns (bin ixD (getv 0) (fun _ => pur (.int 0))) (fun _ => pur [])) dictD) (cns (un negD (fun _ => pur (.int 1))) (fun _ => pur []))) [some dd, none, none, none, none, none, none, none] S = .ok (.nx env1) S1 := by
    simp only [par, lft, cns, bd, a1, un, pur, negD]; rfl
  have L := loop_fault (t := toN 3) (b := bLO) (S := S1) (fun k env => ∃ z3 z4 z5 z6 z7, env = [some dd, some (.obj S.length), some (.int (bef os k)), z3, z4, z5, z6, z7]) (badO sc lim os) (finR S1) finR_ok (rng 0 os.length) 0 env1 ⟨_, _, _, _, _, rfl⟩ (by
    rintro k d env hk ⟨z3, z4, z5, z6, z7, rfl⟩
    obtain ⟨rfl, hkn⟩ := rng_get hk
    rw [Nat.zero_add]
    have ho : os[k]? = some os[k] := List.getElem?_eq_getElem hkn
    have hom : os[k] ∈ os := List.getElem_mem hkn
    generalize os[k] = o at ho hom
    have hv : ∀ v ∈ o.2.2, gd n v = true := fun v hv => ((h.ob o hom).e2.row hv).g
    have hvl : o.2.2.length ≤ big := (h.ob o hom).e2.len
    let env2 : Fx.Env := [some dd, some (.obj S.length), some (.int (bef os k)), some (.int k), z4, z5, z6, z7]
    let env3 : Fx.Env := [some dd, some (.obj S.length), some (.int (bef os k)), some (.int k), some (.int o.1), some (.str o.2.1), some (.tup o.2.2), z7]
    refine ⟨env2, rfl, ?_⟩
    have b1 : bin ixD (bin ixD (getv 0) (fun _ => pur (.int 2))) (getv 3) env2 S1 = .ok (obD o) S1 := (bin_ok ((bink (getv_ok rfl)).trans (ix32 _ _ _ S1)) (getv_ok rfl)).trans (ixTn (by rw [List.getElem?_map, ho]; rfl))
    have t1 : asg (bin ixD (bin ixD (getv 0) (fun _ => pur (.int 2))) (getv 3)) (toTup (toCons (toN 4) (toCons (toN 5) (toCons (toN 6) toNil)))) env2 S1 = .ok (.nx env3) S1 := by
      simp only [asg, lft, b1]; rfl
    have c1 := tst_ok ((bin_ok (g := leD) (f1 := getv 4) (f2 := getv 2) (env := env3) (S := S1) (getv_ok rfl) (getv_ok rfl)).trans (show leD (.int o.1) (.int (bef os k)) S1 = .ok (.bl (decide (o.1 ≤ bef os k))) S1 from rfl))
    have c2 := tst_ok ((bin_ok (g := geD) (f1 := getv 4) (f2 := bin ixD (getv 0) (fun _ => pur (.int 1))) (env := env3) (S := S1) (getv_ok rfl) ((bink (getv_ok rfl)).trans (ix31 _ _ _ S1))).trans (show geD (.int o.1) (.int lim) S1 = .ok (.bl (decide (lim ≤ o.1))) S1 from rfl))
    have c3 : (orB (tst (bin leD (getv 4) (getv 2))) (tst (bin geD (getv 4) (bin ixD (getv 0) (fun _ => pur (.int 1)))))) env3 S1 = .ok (!decide (bef os k < o.1 ∧ o.1 < lim)) S1 := by
      by_cases q1 : o.1 ≤ bef os k
      · rw [decide_eq_true q1] at c1
        rw [or_t c1, decide_eq_false (by omega)]; rfl
      · rw [decide_eq_false q1] at c1
        rw [or_f c1, c2]
        by_cases q2 : lim ≤ o.1
        · rw [decide_eq_true q2, decide_eq_false (by omega)]; rfl
        · rw [decide_eq_false q2, decide_eq_true (by omega)]; rfl
    simp only [badO, ho]
    by_cases hc : bef os k < o.1 ∧ o.1 < lim
    · rw [if_pos hc]
      rw [decide_eq_true hc] at c3
      have t2 : ifS (orB (tst (bin leD (getv 4) (getv 2))) (tst (bin geD (getv 4) (bin ixD (getv 0) (fun _ => pur (.int 1)))))) (Fx.ret (dsp mkT (cns (fun _ => pur (.str "number")) (cns (getv 3) (fun _ => pur []))))) pass env3 S1 = .ok (.nx env3) S1 := (ifS_f c3).trans rfl
      have c4 := tst_ok (din_ok (i := 1) (j := 5) (env := env3) h.asc rfl hp rfl)
      cases hf : formOf sc o.2.1 with
      | none =>
        rw [hf] at c4
        simp only [obF, hf]
        exact (seq_nx t1).trans ((seq_nx t2).trans (seq_rt ((ifS_t c4).trans rfl)))
      | some f =>
        rw [hf] at c4
        simp only [obF, hf]
        have hfm := formOf_mem hf
        have g5 := dget_ok (i := 1) (f2 := getv 5) (env := env3) (S := S1) h.asc rfl hp (getv_ok rfl) hf
        have t3 : ifS (tst (bin (dinD true) (getv 5) (getv 1))) (Fx.ret (dsp mkT (cns (fun _ => pur (.str "class")) (cns (getv 3) (fun _ => pur []))))) pass env3 S1 = .ok (.nx env3) S1 := (ifS_f c4).trans rfl
        have c5 := tst_ok ((bin_ok (g := neD) ((cal1_ok (getv_ok (i := 6) (env := env3) (S := S1) rfl)).trans lenT) ((cal1_ok g5).trans lenT)).trans (neD_int (o.2.2.length : Int) ((f.map row).length : Int) S1))
        by_cases hl : o.2.2.length = f.length
        · rw [if_pos hl]
          have hb : (!((o.2.2.length : Int) == ((f.map row).length : Int))) = false := by simp [hl]
          rw [hb] at c5
          have e2 : itr1 (cns (cal (cns (getv 6) (fun _ => pur [])) lenD) (fun _ => pur [])) env3 S1 = .ok (rng 0 o.2.2.length) S1 := itr1_len ((cal1_ok (getv_ok rfl)).trans lenT) hvl
          have L2 := loop_fault (t := toN 7) (b := bLV) (S := S1) (fun _ env => ∃ z7, env = [some dd, some (.obj S.length), some (.int (bef os k)), some (.int k), some (.int o.1), some (.str o.2.1), some (.tup o.2.2), z7]) (badV f o.2.2 k) (finR S1) finR_ok (rng 0 o.2.2.length) 0 env3 ⟨_, rfl⟩ (by
            rintro j d env hj ⟨z7, rfl⟩
            obtain ⟨rfl, hjn⟩ := rng_get hj
            rw [Nat.zero_add]
            have hjf : j < f.length := by omega
            have hq : f[j]? = some f[j] := List.getElem?_eq_getElem hjf
            have hvj : o.2.2[j]? = some o.2.2[j] := List.getElem?_eq_getElem hjn
            let env4 : Fx.Env := [some dd, some (.obj S.length), some (.int (bef os k)), some (.int k), some (.int o.1), some (.str o.2.1), some (.tup o.2.2), some (.int j)]
            refine ⟨env4, rfl, ?_⟩
            have g5 := dget_ok (i := 1) (f2 := getv 5) (env := env4) (S := S1) h.asc rfl hp (getv_ok rfl) hf
            have g6 : bin ixD (bin ixD (bin dgetD (getv 1) (getv 5)) (getv 7)) (fun _ => pur (.int 1)) env4 S1 = .ok f[j].2 S1 := (bink ((bin_ok g5 (getv_ok rfl)).trans (ixTn (v := row f[j]) (by rw [List.getElem?_map, hq]; rfl)))).trans (ix21 _ _ S1)
            have g7 : bin ixD (getv 6) (getv 7) env4 S1 = .ok o.2.2[j] S1 := (bin_ok (getv_ok rfl) (getv_ok rfl)).trans (ixTn hvj)
            have c6 := notB_ok (tst_ok ((cal2_ok g6 g7).trans (law_suit_ok S1 (h.s.kd _ hfm _ (List.getElem_mem hjf)) (hv _ (List.getElem_mem hjn)))))
            simp only [badV, hq, hvj]
            cases hs : suitP f[j].2 o.2.2[j] with
            | true =>
              rw [hs] at c6
              exact ⟨_, (ifS_f c6).trans rfl, _, rfl⟩
            | false =>
              rw [hs] at c6
              exact (ifS_t c6).trans rfl)
          rw [rng_len, hl] at L2
          have pre : ∀ x, seqS (forS (itr1 (cns (cal (cns (getv 6) (fun _ => pur [])) lenD) (fun _ => pur []))) (toN 7) bLV) (Fx.set 2 (getv 4)) env3 S1 = x → bLO env2 S1 = x := fun x hx =>
            (seq_nx t1).trans ((seq_nx t2).trans ((seq_nx t3).trans ((seq_nx ((ifS_f c5).trans rfl)).trans hx)))
          rw [hl] at e2
          cases e : firstN (badV f o.2.2 k) 0 f.length with
          | none =>
            rw [e] at L2
            obtain ⟨env', L2, z7', rfl⟩ := L2
            refine ⟨[some dd, some (.obj S.length), some (.int o.1), some (.int k), some (.int o.1), some (.str o.2.1), some (.tup o.2.2), z7'], pre _ ((seq_nx ((for_ok e2).trans L2)).trans (set_ok (getv_ok rfl))), some (.int k), some (.int o.1), some (.str o.2.1), some (.tup o.2.2), z7', ?_⟩
            simp only [bef, ho]
          | some r =>
            rw [e] at L2
            exact pre _ (seq_rt ((for_ok e2).trans L2))
        · rw [if_neg hl]
          have hb : (!((o.2.2.length : Int) == ((f.map row).length : Int))) = true := by
            rw [Bool.not_eq_true', beq_eq_false_iff_ne, List.length_map]; omega
          rw [hb] at c5
          exact (seq_nx t1).trans ((seq_nx t2).trans ((seq_nx t3).trans (seq_rt ((ifS_t c5).trans rfl))))
    · rw [if_neg hc]
      rw [decide_eq_false hc] at c3
      exact (seq_nx t1).trans (seq_rt ((ifS_t c3).trans rfl)))
  rw [rng_len] at L
  have e1 : itr1 (cns (cal (cns (bin ixD (getv 0) (fun _ => pur (.int 2))) (fun _ => pur [])) lenD) (fun _ => pur [])) env1 S1 = .ok (rng 0 os.length) S1 := itr1_len ((cal1_ok ((bink (getv_ok rfl)).trans (ix32 _ _ _ S1))).trans (by rw [lenT, List.length_map])) h.lo
  have pre : ∀ x, seqS (forS (itr1 (cns (cal (cns (bin ixD (getv 0) (fun _ => pur (.int 2))) (fun _ => pur [])) lenD) (fun _ => pur []))) (toN 3) bLO) (Fx.ret (fun _ => pur .non)) env1 S1 = x → b_law_objects_fault (ent 8 [dd]) S = x := fun x hx => (seq_nx s1).trans hx
  cases e : firstN (badO sc lim os) 0 os.length with
  | none =>
    rw [e] at L
    obtain ⟨env', L, _⟩ := L
    exact ⟨S1, body_rt rfl (pre _ ((seq_nx ((for_ok e1).trans L)).trans rfl))⟩
  | some r =>
    rw [e] at L
    exact ⟨S1, body_rt rfl (pre _ (seq_rt ((for_ok e1).trans L)))⟩
end K03

end
/-! ## K03u -/
section
namespace K03
variable [Fx.Tabl]
open PySem Fx
open L2 (atI ixN Key)
abbrev head2 (o : Ob) : D := .tup [.int o.1, .str o.2.1]
theorem pairsK_obs : ∀ os : List Ob, pairsK (os.map head2) = some (os.map okv)
  | [] => rfl
  | o :: os => by
    rw [List.map_cons]
    simp only [pairsK, keyOf, pairsK_obs os, List.map_cons]
theorem dict_obs {os : List Ob} {S : Store} : dictD [.lst (os.map head2)] S = .ok (.obj S.length) (S ++ [some (.dct (kvsP os))]) := by
  have z2 : dictD [.lst (os.map head2)] S = (bd (seqL (.lst (os.map head2))) fun ds => bd (opt (pairsK ds)) fun kvs => mkO (.dct (mergeD [] kvs))) S := rfl
  rw [z2]
  simp only [bd, seqL, seqM, pur, pairsK_obs, opt, mkO]
theorem cut2 {a b c : D} : cutD [a, b, c] none (some 2) = [a, b] := rfl
theorem cut1 {a b c : D} : cutD [a, b, c] (some 1) none = [b, c] := rfl
def bKV : Fx.Env → MS := (seqS (Fx.set 8 (bin ixD (bin ixD (bin dgetD (getv 1) (getv 5)) (getv 7)) (fun _ => pur (.int 1))))
  (ifS (andB (tst (isi "str" (getv 8))) (andB (tst (bin isntD (bin ixD (getv 6) (getv 7)) (fun _ => pur .non))) (tst (bin neD (get1 (getv 2) (bin ixD (getv 6) (getv 7))) (getv 8))))) (Fx.ret (dsp mkT (cns (fun _ => pur (.str "link")) (cns (dsp mkT (cns (getv 4) (cns (getv 7) (fun _ => pur [])))) (fun _ => pur []))))) pass))
def bKO : Fx.Env → MS := (seqS (asg (slc (bin ixD (bin ixD (getv 0) (fun _ => pur (.int 2))) (getv 4)) (fun env => bd ((fun _ => pur (.int 1)) env) intOf) (fun _ => pur none)) (toTup (toCons (toN 5) (toCons (toN 6) toNil))))
  (forS (itr1 (cns (cal (cns (getv 6) (fun _ => pur [])) lenD) (fun _ => pur []))) (toN 7) bKV))
theorem isi_str {n i : Nat} {env : Fx.Env} {S : Store} {k : D} (h : gd n k = true) (hi : env[i]? = some (some k)) : isi "str" (getv i) env S = .ok (.bl (isStr k)) S := by
  have g : getv i env S = .ok k S := getv_ok hi
  simp only [isi, bd, g]
  cases k <;> first
    | (simp [gd] at h; done)
    | rfl
theorem law_links_ok {n : Nat} {sc : List Form} {lim : Int} {os : List Ob} (S : Store) (h : StOk n sc lim os) (hb : ObsOk n sc os) :
    ∃ S', g_law_links_fault [stD sc lim os] S = .ok (match firstN (badL sc os) 0 os.length with | none => .non | some r => .tup [.str r.1, r.2]) S' := by
  let dd : D := stD sc lim os
  let S0 : Store := S ++ [some (.dct (fkvs sc))]
  let S1 : Store := S0 ++ [some (.dct (kvsP os))]
  have hl0 : S0.length = S.length + 1 := by simp [S0]
  have hp : S1[S.length]? = some (some (.dct (fkvs sc))) := by simp [S1, S0]
  have hp2 : S1[S.length + 1]? = some (some (.dct (kvsP os))) := by rw [← hl0]; simp [S1]
  have hos : ∀ o ∈ os, gd n (.str o.2.1) = true := fun o ho => (h.ob o ho).e1.g
  let e0 : Fx.Env := [some dd, none, none, none, none, none, none, none, none]
  let env1 : Fx.Env := [some dd, some (.obj S.length), some (.obj (S.length + 1)), none, none, none, none, none, none]
  have a1 : cal (cns (bin ixD (getv 0) (fun _ => pur (.int 0))) (fun _ => pur [])) dictD e0 S = .ok (.obj S.length) S0 := (cal1_ok ((bink (getv_ok rfl)).trans (ix30 _ _ _ S))).trans dict_sc
  have c1 : cmp [3] mkL (itf (bin ixD (getv 0) (fun _ => pur (.int 2)))) (toN 3) (fun _ => pur true) (slc (getv 3) (fun _ => pur none) (fun env => bd ((fun _ => pur (.int 2)) env) intOf)) e0 S0 = .ok (.lst (os.map head2)) S0 := by
    rw [cmp_ok (os.map obD) (fun _ => true) (fun d => match d with | .tup [a, b, c] => .tup [a, b] | _ => .non) ?_ ?_ (by rw [List.length_map]; exact Nat.le_trans h.lo big_le), List.filter_eq_self.mpr (by simp), List.map_map]
    · rfl
    · have : bin ixD (getv 0) (fun _ => pur (.int 2)) e0 S0 = .ok (.tup (os.map obD)) S0 := (bink (getv_ok rfl)).trans (ix32 _ _ _ S0)
      simp only [itf, bd, this, itm, pur]
    · intro d hd
      obtain ⟨o, ho, rfl⟩ := List.mem_map.mp hd
      refine ⟨[some dd, none, none, some (obD o), none, none, none, none, none], rfl, rfl, fun _ => ?_⟩
      have g : getv 3 [some dd, none, none, some (obD o), none, none, none, none, none] S0 = .ok (obD o) S0 := getv_ok rfl
      simp only [slc, bd, g, pur, intOf, slD]
      rw [if_pos (show [D.int o.1, D.str o.2.1, D.tup o.2.2].length ≤ sizeLine from sz3)]
      rfl
  have a2 : cal (cns (cmp [3] mkL (itf (bin ixD (getv 0) (fun _ => pur (.int 2)))) (toN 3) (fun _ => pur true) (slc (getv 3) (fun _ => pur none) (fun env => bd ((fun _ => pur (.int 2)) env) intOf))) (fun _ => pur [])) dictD e0 S0 = .ok (.obj (S.length + 1)) S1 := by
    rw [cal1_ok c1, dict_obs, hl0]
  have s1 : par 1 2 (cns (cal (cns (bin ixD (getv 0) (fun _ => pur (.int 0))) (fun _ => pur [])) dictD) (cns (cal (cns (cmp [3] mkL (itf (bin ixD (getv 0) (fun _ => pur (.int 2)))) (toN 3) (fun _ => pur true) (slc (getv 3) (fun _ => pur none) (fun env => bd ((fun _ => pur (.int 2)) env) intOf))) (fun _ => pur [])) dictD) (fun _ => pur []))) e0 S = .ok (.nx env1) S1 := by
    simp only [par, lft, cns, bd] at a1 a2 ⊢
    simp only [a1, a2, pur]; rfl
  have L := loop_fault (t := toN 4) (b := bKO) (S := S1) (fun k env => ∃ z3 z4 z5 z6 z7 z8, env = [some dd, some (.obj S.length), some (.obj (S.length + 1)), z3, z4, z5, z6, z7, z8]) (badL sc os) (finR S1) finR_ok (rng 0 os.length) 0 env1 ⟨_, _, _, _, _, _, rfl⟩ (by
    rintro k d env hk ⟨z3, z4, z5, z6, z7, z8, rfl⟩
    obtain ⟨rfl, hkn⟩ := rng_get hk
    rw [Nat.zero_add]
    have ho : os[k]? = some os[k] := List.getElem?_eq_getElem hkn
    have hom : os[k] ∈ os := List.getElem_mem hkn
    generalize os[k] = o at ho hom
    have hvl : o.2.2.length ≤ big := (h.ob o hom).e2.len
    obtain ⟨f, hf, hfl, hsu⟩ := hb.ft o hom
    have hfm := formOf_mem hf
    let env2 : Fx.Env := [some dd, some (.obj S.length), some (.obj (S.length + 1)), z3, some (.int k), z5, z6, z7, z8]
    let env3 : Fx.Env := [some dd, some (.obj S.length), some (.obj (S.length + 1)), z3, some (.int k), some (.str o.2.1), some (.tup o.2.2), z7, z8]
    refine ⟨env2, rfl, ?_⟩
    have b1 : bin ixD (bin ixD (getv 0) (fun _ => pur (.int 2))) (getv 4) env2 S1 = .ok (obD o) S1 := (bin_ok ((bink (getv_ok rfl)).trans (ix32 _ _ _ S1)) (getv_ok rfl)).trans (ixTn (by rw [List.getElem?_map, ho]; rfl))
    have t1 : asg (slc (bin ixD (bin ixD (getv 0) (fun _ => pur (.int 2))) (getv 4)) (fun env => bd ((fun _ => pur (.int 1)) env) intOf) (fun _ => pur none)) (toTup (toCons (toN 5) (toCons (toN 6) toNil))) env2 S1 = .ok (.nx env3) S1 := by
      simp only [asg, lft, slc, bd, b1, pur, intOf, slD]
      rw [if_pos (show [D.int o.1, D.str o.2.1, D.tup o.2.2].length ≤ sizeLine from sz3)]; rfl
    have e2 : itr1 (cns (cal (cns (getv 6) (fun _ => pur [])) lenD) (fun _ => pur [])) env3 S1 = .ok (rng 0 o.2.2.length) S1 := itr1_len ((cal1_ok (getv_ok rfl)).trans lenT) hvl
    have L2 := loop_fault (t := toN 7) (b := bKV) (S := S1) (fun _ env => ∃ z7 z8, env = [some dd, some (.obj S.length), some (.obj (S.length + 1)), z3, some (.int k), some (.str o.2.1), some (.tup o.2.2), z7, z8]) (badK (kvsP os) f o.2.2 k) (finR S1) finR_ok (rng 0 o.2.2.length) 0 env3 ⟨_, _, rfl⟩ (by
      rintro j d env hj ⟨z7, z8, rfl⟩
      obtain ⟨rfl, hjn⟩ := rng_get hj
      rw [Nat.zero_add]
      have hjf : j < f.length := by omega
      have hq : f[j]? = some f[j] := List.getElem?_eq_getElem hjf
      have hqm : f[j] ∈ f := List.getElem_mem hjf
      have hvj : o.2.2[j]? = some o.2.2[j] := List.getElem?_eq_getElem hjn
      let env4 : Fx.Env := [some dd, some (.obj S.length), some (.obj (S.length + 1)), z3, some (.int k), some (.str o.2.1), some (.tup o.2.2), some (.int j), z8]
      let env5 : Fx.Env := [some dd, some (.obj S.length), some (.obj (S.length + 1)), z3, some (.int k), some (.str o.2.1), some (.tup o.2.2), some (.int j), some f[j].2]
      refine ⟨env4, rfl, ?_⟩
      have g5 := dget_ok (i := 1) (f2 := getv 5) (env := env4) (S := S1) h.asc rfl hp (getv_ok rfl) hf
      have g6 : bin ixD (bin ixD (bin dgetD (getv 1) (getv 5)) (getv 7)) (fun _ => pur (.int 1)) env4 S1 = .ok f[j].2 S1 := (bink ((bin_ok g5 (getv_ok rfl)).trans (ixTn (v := row f[j]) (by rw [List.getElem?_map, hq]; rfl)))).trans (ix21 _ _ S1)
      have t2 := set_ok (i := 8) g6
      have c := lk_cond (n := n) (p := S.length + 1) (iK := 8) (ic := 2) (env := env5) (S := S1) (fl := isi "str" (getv 8)) (fv := bin ixD (getv 6) (getv 7)) (iv := 0) (ij := 0) hos (hb.s.kd _ hfm _ hqm) (hb.kg _ hfm _ hqm) (hsu j _ _ hq hvj) hp2 rfl rfl ((bin_ok (getv_ok rfl) (getv_ok rfl)).trans (ixTn hvj)) (isi_str (hb.kg _ hfm _ hqm) rfl)
      simp only [badK, hq, hvj]
      cases hk : lkBad (kvsP os) f[j].2 o.2.2[j] with
      | true =>
        rw [hk] at c
        exact (seq_nx t2).trans ((ifS_t c).trans rfl)
      | false =>
        rw [hk] at c
        exact ⟨_, (seq_nx t2).trans ((ifS_f c).trans rfl), _, _, rfl⟩)
    rw [rng_len, hfl] at L2
    rw [hfl] at e2
    have hB : badL sc os k = firstN (badK (kvsP os) f o.2.2 k) 0 f.length := by simp only [badL, ho, hf]
    rw [hB]
    cases e : firstN (badK (kvsP os) f o.2.2 k) 0 f.length with
    | none =>
      rw [e] at L2
      obtain ⟨env', L2, z7', z8', rfl⟩ := L2
      exact ⟨_, (seq_nx t1).trans ((for_ok e2).trans L2), _, _, _, _, _, _, rfl⟩
    | some r =>
      rw [e] at L2
      exact (seq_nx t1).trans ((for_ok e2).trans L2))
  rw [rng_len] at L
  have e1 : itr1 (cns (cal (cns (bin ixD (getv 0) (fun _ => pur (.int 2))) (fun _ => pur [])) lenD) (fun _ => pur [])) env1 S1 = .ok (rng 0 os.length) S1 := itr1_len ((cal1_ok ((bink (getv_ok rfl)).trans (ix32 _ _ _ S1))).trans (by rw [lenT, List.length_map])) h.lo
  have pre : ∀ x, seqS (forS (itr1 (cns (cal (cns (bin ixD (getv 0) (fun _ => pur (.int 2))) (fun _ => pur [])) lenD) (fun _ => pur []))) (toN 4) bKO) (Fx.ret (fun _ => pur .non)) env1 S1 = x → b_law_links_fault (ent 9 [dd]) S = x := fun x hx => (seq_nx s1).trans hx
  cases e : firstN (badL sc os) 0 os.length with
  | none =>
    rw [e] at L
    obtain ⟨env', L, _⟩ := L
    exact ⟨S1, body_rt rfl (pre _ ((seq_nx ((for_ok e1).trans L)).trans rfl))⟩
  | some r =>
    rw [e] at L
    exact ⟨S1, body_rt rfl (pre _ (seq_rt ((for_ok e1).trans L)))⟩
end K03

end
/-! ## K03v -/
section
namespace K03
variable [Fx.Tabl]
open PySem Fx
open L2 (atI ixN Key)
theorem firstN_some {ρ : Type} {p : Nat → Option ρ} {r : ρ} : ∀ (m k : Nat), firstN p k m = some r → ∃ j, k ≤ j ∧ j < k + m ∧ p j = some r
  | 0, _, h => by cases h
  | m + 1, k, h => by
    unfold firstN at h
    cases e : p k with
    | some r' => rw [e] at h; cases h; exact ⟨k, Nat.le_refl _, by omega, e⟩
    | none =>
      rw [e] at h
      obtain ⟨j, h1, h2, h3⟩ := firstN_some m (k + 1) h
      exact ⟨j, by omega, by omega, h3⟩
/-- what a fault is made of -/
structure FltOk (r : Flt) : Prop where
  w : ∀ c ∈ r.1.cps.toList, c < 128
  l : r.1.length ≤ 8
  a : (∃ k : Int, r.2 = .int k ∧ k.natAbs ≤ big) ∨ ∃ k j : Int, r.2 = .tup [.int k, .int j] ∧ k.natAbs ≤ big ∧ j.natAbs ≤ big
theorem word_ok {x : Str} (h : (x.cps.all (· < 128) && decide (x.length ≤ 8)) = true) : (∀ c ∈ x.cps.toList, c < 128) ∧ x.length ≤ 8 := by
  simp only [Bool.and_eq_true, decide_eq_true_eq] at h
  exact ⟨all_lt.mp h.1, h.2⟩
theorem flt_word {x : Str} {a : D} (h : (x.cps.all (· < 128) && decide (x.length ≤ 8)) = true) (ha : (∃ k : Int, a = .int k ∧ k.natAbs ≤ big) ∨ ∃ k j : Int, a = .tup [.int k, .int j] ∧ k.natAbs ≤ big ∧ j.natAbs ≤ big) : FltOk (x, a) :=
  ⟨(word_ok h).1, (word_ok h).2, ha⟩
theorem fault_ok {n : Nat} {sc : List Form} {lim : Int} {os : List Ob} {r : Flt} (h : StOk n sc lim os) (hr : faultS sc lim os = some r) : FltOk r := by
  have fl : ∀ {o : Ob} {f : List (Str × D)}, formOf sc o.2.1 = some f → f.length ≤ big := fun hf => h.s.ln _ (formOf_mem hf)
  unfold faultS at hr
  split at hr
  · rename_i r' e
    cases hr
    obtain ⟨k, _, hk, hb⟩ := firstN_some _ _ e
    have hk' : k ≤ big := by have := h.lo; omega
    unfold badO at hb
    split at hb
    · cases hb
    · rename_i o ho
      split at hb
      · unfold obF at hb
        split at hb
        · cases hb; exact flt_word (by decide +kernel) (.inl ⟨_, rfl, by omega⟩)
        · rename_i f hf
          split at hb
          · obtain ⟨j, _, hj, hv⟩ := firstN_some _ _ hb
            have := fl hf
            unfold badV at hv
            split at hv
            · split at hv
              · cases hv
              · cases hv; exact flt_word (by decide +kernel) (.inr ⟨_, _, rfl, by omega, by omega⟩)
            · cases hv
          · cases hb; exact flt_word (by decide +kernel) (.inl ⟨_, rfl, by omega⟩)
      · cases hb; exact flt_word (by decide +kernel) (.inl ⟨_, rfl, by omega⟩)
  · obtain ⟨k, _, hk, hb⟩ := firstN_some _ _ hr
    have hk' : k ≤ big := by have := h.lo; omega
    unfold badL at hb
    split at hb
    · cases hb
    · split at hb
      · cases hb
      · rename_i f hf
        obtain ⟨j, _, hj, hv⟩ := firstN_some _ _ hb
        have := fl hf
        unfold badK at hv
        split at hv
        · split at hv
          · cases hv; exact flt_word (by decide +kernel) (.inr ⟨_, _, rfl, by omega, by omega⟩)
          · cases hv
        · cases hv
/-- what is told of a store -/
def told : Option Flt → List Form → List Ob → D
  | none, sc, os => .tup [.str "told", outP sc os]
  | some r, _, _ => .tup [.str "paper", .str r.1, r.2]
theorem flt_in {r : Flt} (h : FltOk r) : gd 2000000 (.tup [.str "paper", .str r.1, r.2]) = true ∧ wgt (.tup [.str "paper", .str r.1, r.2]) ≤ 200 ∧ dep (.tup [.str "paper", .str r.1, r.2]) ≤ 64 := by
  have hbig : big = 1048576 := rfl
  have i : In 2000000 200 3 (.tup [.str "paper", .str r.1, r.2]) := by
    have a2 : In 2000000 64 2 r.2 := by
      rcases h.a with ⟨k, e, hk⟩ | ⟨k, j, e, hk, hj⟩
      · rw [e]; exact .int (by omega) (by decide) _ _ (by decide)
      · rw [e]
        refine In.tup (P := 1) (fun d hd => ?_) ?_
        · simp only [List.mem_cons, List.not_mem_nil, or_false] at hd
          rcases hd with rfl | rfl <;> exact ⟨by simp [gd]; omega, Nat.zero_le _⟩
        · have h1 := wgt_int (i := k) (k := 30) (by omega)
          have h2 := wgt_int (i := j) (k := 30) (by omega)
          rw [sw_cons, sw_cons, sw_nil]; omega
    have w1 : wgt (.str ("paper" : Str)) ≤ 5 := by decide +kernel
    have w2 : wgt (.str r.1) ≤ 8 := h.l
    refine In.tup (P := 2) (fun d hd => ?_) ?_
    · simp only [List.mem_cons, List.not_mem_nil, or_false] at hd
      rcases hd with rfl | rfl | rfl
      · exact ⟨by decide +kernel, Nat.zero_le _⟩
      · exact ⟨by rw [gd]; exact all_lt.mpr h.w, Nat.zero_le _⟩
      · exact ⟨a2.g, a2.p⟩
    · have := a2.w
      rw [sw_cons, sw_cons, sw_cons, sw_nil]; omega
  exact ⟨i.g, i.w, Nat.le_trans i.p (by decide)⟩
theorem told_in {sc : List Form} {os : List Ob} (h1 : sc.length ≤ big) (h2 : os.length ≤ big) : gd 2000000 (told none sc os) = true ∧ wgt (told none sc os) ≤ 200 ∧ dep (told none sc os) ≤ 64 := by
  have hbig : big = 1048576 := rfl
  have a2 : In 2000000 64 2 (outP sc os) := by
    refine In.tup (P := 1) (fun d hd => ?_) ?_
    · simp only [List.mem_cons, List.not_mem_nil, or_false] at hd
      rcases hd with rfl | rfl <;> exact ⟨by simp [gd]; omega, Nat.zero_le _⟩
    · have h1 := wgt_int (i := sc.length) (k := 30) (by omega)
      have h2 := wgt_int (i := os.length) (k := 30) (by omega)
      rw [sw_cons, sw_cons, sw_nil]; omega
  have w1 : wgt (.str ("told" : Str)) ≤ 5 := by decide +kernel
  have i : In 2000000 200 3 (told none sc os) := by
    refine In.tup (P := 2) (fun d hd => ?_) ?_
    · simp only [List.mem_cons, List.not_mem_nil, or_false] at hd
      rcases hd with rfl | rfl
      · exact ⟨by decide +kernel, Nat.zero_le _⟩
      · exact ⟨a2.g, a2.p⟩
    · have := a2.w
      rw [sw_cons, sw_cons, sw_nil]; omega
  exact ⟨i.g, i.w, Nat.le_trans i.p (by decide)⟩
theorem big_60 : (2000000 : Nat) ≤ big60 := by decide +kernel
theorem repr_of {d : D} {S : Store} (h : gd 2000000 d = true ∧ wgt d ≤ 200 ∧ dep d ≤ 64) : reprD [d] S = .ok (.str (py d).shown) S :=
  repr_ok (gd_mono big_60 _ h.1) (Nat.le_trans h.2.1 (by decide)) h.2.2
theorem asc_of60 {d : D} (h : gd 2000000 d = true) : asc (py d).shown := shown_asc d (gd_mono big_60 _ h)
theorem bool_in (b : Bool) : gd 2000000 (.bl b) = true ∧ wgt (.bl b) ≤ 200 ∧ dep (.bl b) ≤ 64 := ⟨rfl, Nat.zero_le _, Nat.zero_le _⟩
/-- what the checker says, whatever the store -/
def outc (m : M D) (S : Store) (r : Option Flt) (v : D) : Prop := match r with
  | none => ∃ S', m S = .ok v S'
  | some r => ∃ S', m S = .ex (paper r) S'
theorem is_plain_of {d v : D} {S : Store} {r : Option Flt} (h : outc (g_lets_plain [d]) S r v) : ∃ S', g_is_plain [d] S = .ok (.bl r.isNone) S' := by
  cases r with
  | none =>
    obtain ⟨S', h⟩ := h
    refine ⟨S', body_rt (S' := S') rfl ?_⟩
    have : drop (cal (cns (getv 0) (fun _ => pur [])) g_lets_plain) (ent 1 [d]) S = .ok (.nx (ent 1 [d])) S' := drop_ok ((cal1_ok (getv_ok rfl)).trans h)
    have t : tryO tabs_InvalidPaper (drop (cal (cns (getv 0) (fun _ => pur [])) g_lets_plain)) (Fx.ret (fun _ => pur (.bl false))) (ent 1 [d]) S = .ok (.nx (ent 1 [d])) S' := by simp only [tryO, this]
    exact (seq_nx t).trans rfl
  | some r =>
    obtain ⟨S', h⟩ := h
    refine ⟨S', body_rt (S' := S') rfl ?_⟩
    have : drop (cal (cns (getv 0) (fun _ => pur [])) g_lets_plain) (ent 1 [d]) S = .ex (paper r) (ent 1 [d]) S' := drop_ex ((cal1_ok (getv_ok rfl)).trans h)
    have t : tryO tabs_InvalidPaper (drop (cal (cns (getv 0) (fun _ => pur [])) g_lets_plain)) (Fx.ret (fun _ => pur (.bl false))) (ent 1 [d]) S = .ok (.rt (.bl false)) S' := by
      have l : tabs_InvalidPaper.lookup (paper r).cls = some true := rfl
      simp only [tryO, this, l]; rfl
    exact seq_rt t
theorem heard_of {d v : D} {env : Fx.Env} {S : Store} {r : Option Flt} (hi : env[0]? = some (some d)) (h : outc (g_lets_plain [d]) S r v) :
    ∃ S', heardM "told" tabs_LateError qf_law_heard ((cal (cns (getv 0) (fun _ => pur [])) g_lets_plain) env) S = .ok (match r with | none => .tup [.str "told", v] | some r => .tup [.str "paper", .str r.1, r.2]) S' := by
  have e := cal1_ok (g := g_lets_plain) (getv_ok (S := S) hi)
  cases r with
  | none =>
    obtain ⟨S', h⟩ := h
    rw [h] at e
    exact ⟨S', by simp only [heardM, e]⟩
  | some r =>
    obtain ⟨S', h⟩ := h
    rw [h] at e
    have l : tabs_LateError.lookup (paper r).cls = some true := rfl
    have q : qf_law_heard (paper r) S' = .ok (.tup [.str "paper", .str r.1, r.2]) (S' ++ [none]) := by simp [qf_law_heard]
    exact ⟨S' ++ [none], by simp only [heardM, e, l, if_true, q]⟩
/-- the end of the law's look, once found and due are there -/
def bEnd : Fx.Env → MS := (seqS (ifS (tst (bin neD (cal (cns (fun env => heardM "told" tabs_LateError qf_law_heard ((cal (cns (getv 0) (fun _ => pur [])) g_lets_plain) env)) (fun _ => pur [])) reprD) (cal (cns (getv 2) (fun _ => pur [])) reprD))) (Fx.ret (fun _ => pur (.bl false))) pass)
  (Fx.ret (bin eqD (cal (cns (cal (cns (getv 0) (fun _ => pur [])) g_is_plain) (fun _ => pur [])) reprD) (cal (cns (bin isD (getv 1) (fun _ => pur .non)) (fun _ => pur [])) reprD))))
theorem end_ok {d v f : D} {r : Option Flt} {X : D} (S : Store) (hX : X = (match r with | none => .tup [.str "told", v] | some r => .tup [.str "paper", .str r.1, r.2])) (hf : isNon f = r.isNone) (hg : gd 2000000 X = true ∧ wgt X ≤ 200 ∧ dep X ≤ 64) (h : ∀ S, outc (g_lets_plain [d]) S r v) :
    ∃ S', bEnd [some d, some f, some X] S = .ok (.rt (.bl true)) S' := by
  obtain ⟨S1, e1⟩ := heard_of (env := [some d, some f, some X]) rfl (h S)
  rw [← hX] at e1
  obtain ⟨S2, e2⟩ := is_plain_of (h S1)
  have c1 := (cal1_okS (g := reprD) (f := fun env => heardM "told" tabs_LateError qf_law_heard ((cal (cns (getv 0) (fun _ => pur [])) g_lets_plain) env)) e1).trans (repr_of hg)
  have c2 := (cal1_ok (g := reprD) (getv_ok (i := 2) (env := [some d, some f, some X]) (S := S1) rfl)).trans (repr_of hg)
  have c3 := tst_ok ((bin_okS (g := neD) c1 c2).trans (str_ne (asc_of60 hg.1)))
  have d1 := (cal1_okS (g := reprD) ((cal1_ok (g := g_is_plain) (getv_ok (i := 0) (env := [some d, some f, some X]) (S := S1) rfl)).trans e2)).trans (repr_of (bool_in _))
  have d2 := (cal1_ok (g := reprD) ((bink (g := isD) (d := .non) (getv_ok (i := 1) (env := [some d, some f, some X]) (S := S2) rfl)).trans (isD_non f S2))).trans (repr_of (bool_in _))
  rw [hf] at d2
  exact ⟨S2, (seq_nx ((ifS_f c3).trans rfl)).trans (ret_okS ((bin_okS (g := eqD) d1 d2).trans (str_eq (asc_of60 (bool_in _).1))))⟩
end K03

end
/-! ## K03w -/
section
namespace K03
variable [Fx.Tabl]
open PySem Fx
open L2 (atI ixN Key)
def fD : Option Flt → D
  | none => .non
  | some r => .tup [.str r.1, r.2]
def bDue : Fx.Env → MS := (Fx.set 2 (iteV (tst (bin isD (getv 1) (fun _ => pur .non))) (dsp mkT (cns (fun _ => pur (.str "told")) (cns (dsp mkT (cns (cal (cns (bin ixD (getv 0) (fun _ => pur (.int 0))) (fun _ => pur [])) lenD) (cns (cal (cns (bin ixD (getv 0) (fun _ => pur (.int 2))) (fun _ => pur [])) lenD) (fun _ => pur [])))) (fun _ => pur [])))) (bin (addD mkL) (dsp mkT (cns (fun _ => pur (.str "paper")) (fun _ => pur []))) (getv 1))))
theorem due_some {d : D} {r : Flt} (S : Store) (hr : FltOk r) (h : ∀ S, outc (g_lets_plain [d]) S (some r) .non) : ∃ S', seqS bDue bEnd [some d, some (.tup [.str r.1, r.2]), none] S = .ok (.rt (.bl true)) S' := by
  let env : Fx.Env := [some d, some (.tup [.str r.1, r.2]), none]
  have c1 := tst_ok ((bink (g := isD) (d := .non) (getv_ok (i := 1) (env := env) (S := S) rfl)).trans (isD_non _ S))
  have t1 : bDue env S = .ok (.nx [some d, some (.tup [.str r.1, r.2]), some (.tup [.str "paper", .str r.1, r.2])]) S := set_ok (i := 2) ((ite_f c1).trans ((bin_ok (g := addD mkL) (f1 := dsp mkT (cns (fun _ => pur (.str "paper")) (fun _ => pur []))) (f2 := getv 1) (a := .tup [.str "paper"]) (by simp only [dsp, bd, cns, pur]; exact mkT_ok sz1) (getv_ok rfl)).trans (show addD mkL (.tup [.str "paper"]) (.tup [.str r.1, r.2]) S = .ok (.tup [.str "paper", .str r.1, r.2]) S from by
    show (if [D.str "paper"].length + [D.str r.1, r.2].length ≤ sizeLine then pur (D.tup ([D.str "paper"] ++ [D.str r.1, r.2])) else mno : M D) S = _
    rw [if_pos (show [D.str "paper"].length + [D.str r.1, r.2].length ≤ sizeLine from sz3)]; rfl)))
  obtain ⟨S', e⟩ := end_ok (d := d) (v := .non) (f := .tup [.str r.1, r.2]) (r := some r) (X := .tup [.str "paper", .str r.1, r.2]) S rfl rfl (flt_in hr) h
  exact ⟨S', (seq_nx t1).trans e⟩
theorem due_none {n : Nat} {sc : List Form} {lim : Int} {os : List Ob} (S : Store) (hs : StOk n sc lim os) (h : ∀ S, outc (g_lets_plain [stD sc lim os]) S none (outP sc os)) : ∃ S', seqS bDue bEnd [some (stD sc lim os), some .non, none] S = .ok (.rt (.bl true)) S' := by
  let env : Fx.Env := [some (stD sc lim os), some .non, none]
  have c1 := tst_ok ((bink (g := isD) (d := .non) (getv_ok (i := 1) (env := env) (S := S) rfl)).trans (isD_non _ S))
  have a1 : cal (cns (bin ixD (getv 0) (fun _ => pur (.int 0))) (fun _ => pur [])) lenD env S = .ok (.int sc.length) S := (cal1_ok ((bink (getv_ok rfl)).trans (ix30 _ _ _ S))).trans (by rw [lenT, List.length_map])
  have a2 : cal (cns (bin ixD (getv 0) (fun _ => pur (.int 2))) (fun _ => pur [])) lenD env S = .ok (.int os.length) S := (cal1_ok ((bink (getv_ok rfl)).trans (ix32 _ _ _ S))).trans (by rw [lenT, List.length_map])
  have a3 : dsp mkT (cns (fun _ => pur (.str "told")) (cns (dsp mkT (cns (cal (cns (bin ixD (getv 0) (fun _ => pur (.int 0))) (fun _ => pur [])) lenD) (cns (cal (cns (bin ixD (getv 0) (fun _ => pur (.int 2))) (fun _ => pur [])) lenD) (fun _ => pur [])))) (fun _ => pur []))) env S = .ok (told none sc os) S := by
    have b : dsp mkT (cns (cal (cns (bin ixD (getv 0) (fun _ => pur (.int 0))) (fun _ => pur [])) lenD) (cns (cal (cns (bin ixD (getv 0) (fun _ => pur (.int 2))) (fun _ => pur [])) lenD) (fun _ => pur []))) env S = .ok (outP sc os) S := by
      rw [dsp]
      simp only [bd, cns, a1, a2, pur]; exact mkT_ok sz2
    rw [dsp]
    simp only [bd, cns, b, pur]; exact mkT_ok sz2
  have t1 : bDue env S = .ok (.nx [some (stD sc lim os), some .non, some (told none sc os)]) S := set_ok (i := 2) ((ite_t c1).trans a3)
  obtain ⟨S', e⟩ := end_ok (d := stD sc lim os) (v := outP sc os) (f := .non) (r := none) (X := told none sc os) S rfl rfl (told_in hs.ls hs.lo) h
  exact ⟨S', (seq_nx t1).trans e⟩
theorem outc_eq {sc : List Form} {lim : Int} {os : List Ob} {S : Store} (h : match faultS sc lim os with
      | none => ∃ S', g_lets_plain [stD sc lim os] S = .ok (outP sc os) S'
      | some r => ∃ S', g_lets_plain [stD sc lim os] S = .ex (paper r) S') : ∀ r, faultS sc lim os = r → outc (g_lets_plain [stD sc lim os]) S r (outP sc os) := by
  rintro r rfl
  cases e : faultS sc lim os with
  | none => rw [e] at h; exact h
  | some r => rw [e] at h; exact h
theorem outc_v {m : M D} {S : Store} {r : Flt} {v w : D} (h : outc m S (some r) v) : outc m S (some r) w := h
theorem right_ok {n : Nat} {d : D} (S : Store) (h : Ok n d) : ∃ S', g_law_right [d] S = .ok (.bl true) S' := by
  have e0 := law_has_shape_ok S h
  have c0 := tst_ok ((cal1_ok (g := g_law_has_shape) (getv_ok (i := 0) (env := [some d, none, none]) (S := S) rfl)).trans e0)
  cases hs : shapeP d with
  | false =>
    rw [hs] at c0
    let r : Flt := ("shape", .int (-1))
    have t1 := set_ok (i := 1) (f := iteV (tst (cal (cns (getv 0) (fun _ => pur [])) g_law_has_shape)) (fun _ => pur .non) (dsp mkT (cns (fun _ => pur (.str "shape")) (cns (un negD (fun _ => pur (.int 1))) (fun _ => pur []))))) (d := .tup [.str "shape", .int (-1)]) ((ite_f c0).trans (by simp only [dsp, bd, cns, un, pur, negD]; exact mkT_ok sz2))
    let env : Fx.Env := [some d, some (.tup [.str "shape", .int (-1)]), none]
    have c1 := tst_ok ((bink (g := isD) (d := .non) (getv_ok (i := 1) (env := env) (S := S) rfl)).trans (isD_non _ S))
    obtain ⟨S', e⟩ := due_some (d := d) (r := r) S (flt_word (by decide +kernel) (.inl ⟨_, rfl, by decide⟩)) fun S => ⟨S, lets_plain_bad S h hs⟩
    exact ⟨S', body_rt rfl ((seq_nx t1).trans ((seq_nx ((ifS_f c1).trans rfl)).trans ((seq_nx ((ifS_f c1).trans rfl)).trans e)))⟩
  | true =>
    rw [hs] at c0
    obtain ⟨sc, lim, os, rfl, hst⟩ := shape_inv h hs
    have t1 := set_ok (i := 1) (f := iteV (tst (cal (cns (getv 0) (fun _ => pur [])) g_law_has_shape)) (fun _ => pur .non) (dsp mkT (cns (fun _ => pur (.str "shape")) (cns (un negD (fun _ => pur (.int 1))) (fun _ => pur []))))) (d := .non) ((ite_t c0).trans rfl)
    let env : Fx.Env := [some (stD sc lim os), some .non, none]
    have c1 : ∀ T : Store, tst (bin isD (getv 1) (fun _ => pur .non)) env T = .ok true T := fun T => tst_ok ((bink (g := isD) (d := .non) (getv_ok (i := 1) (env := env) (S := T) rfl)).trans (isD_non _ T))
    obtain ⟨S1, o1⟩ := law_objects_ok S hst
    have lp : ∀ (r : Option Flt), faultS sc lim os = r → ∀ S, outc (g_lets_plain [stD sc lim os]) S r (outP sc os) := fun r hr S => outc_eq (lets_plain_ok S hst h hs) r hr
    have t2 := set_ok (i := 1) ((cal1_ok (g := g_law_objects_fault) (getv_ok (i := 0) (env := env) (S := S) rfl)).trans o1)
    cases e : firstN (badO sc lim os) 0 os.length with
    | some r =>
      rw [e] at t2
      have hF : faultS sc lim os = some r := by unfold faultS; rw [e]
      let env2 : Fx.Env := [some (stD sc lim os), some (.tup [.str r.1, r.2]), none]
      have c2 := tst_ok ((bink (g := isD) (d := .non) (getv_ok (i := 1) (env := env2) (S := S1) rfl)).trans (isD_non _ S1))
      obtain ⟨S', e⟩ := due_some (d := stD sc lim os) (r := r) S1 (fault_ok hst hF) fun S => outc_v (lp _ hF S)
      exact ⟨S', body_rt rfl ((seq_nx t1).trans ((seq_nx ((ifS_t (c1 S)).trans t2)).trans ((seq_nx ((ifS_f c2).trans rfl)).trans e)))⟩
    | none =>
      rw [e] at t2
      obtain ⟨S2, o2⟩ := law_links_ok S1 hst (hst.obs e)
      have t3 := set_ok (i := 1) ((cal1_ok (g := g_law_links_fault) (getv_ok (i := 0) (env := env) (S := S1) rfl)).trans o2)
      cases e2 : firstN (badL sc os) 0 os.length with
      | some r =>
        rw [e2] at t3
        have hF : faultS sc lim os = some r := by unfold faultS; rw [e]; exact e2
        obtain ⟨S', e⟩ := due_some (d := stD sc lim os) (r := r) S2 (fault_ok hst hF) fun S => outc_v (lp _ hF S)
        exact ⟨S', body_rt rfl ((seq_nx t1).trans ((seq_nx ((ifS_t (c1 S)).trans t2)).trans ((seq_nx ((ifS_t (c1 S1)).trans t3)).trans e)))⟩
      | none =>
        rw [e2] at t3
        have hF : faultS sc lim os = none := by unfold faultS; rw [e]; exact e2
        obtain ⟨S', e⟩ := due_none S2 hst (lp _ hF)
        exact ⟨S', body_rt rfl ((seq_nx t1).trans ((seq_nx ((ifS_t (c1 S)).trans t2)).trans ((seq_nx ((ifS_t (c1 S1)).trans t3)).trans e)))⟩
end K03

end
/-! ## K03y -/
section
namespace K03
variable [Fx.Tabl]
open PySem Fx
open L2 (atI ixN Key)
abbrev Hd : Type := Nat × Str
abbrev hdD (h : Hd) : D := .tup [.int h.1, .str h.2]
structure HdsOk (H : List Hd) : Prop where
  o : ∀ h ∈ H, h.1 < 8 ∧ okN h.2
  l : H.length ≤ 8
theorem okN.gd {x : Str} (h : okN x) : Fx.gd 2000 (.str x) = true := by rw [Fx.gd]; exact all_lt.mpr h.1
theorem value_ok {S R : Store} {sort : D} {H : List Hd} (hF : Fd S R) (hs : SortOk sort) (hH : HdsOk H) : ∃ v S', In 2000 12 0 v ∧ Fd S' R ∧ g_law_value [.obj 0, sort, .lst (H.map hdD)] S = .ok v S' := by
  rcases hs with ⟨l, h, rfl, h1, h2, h3⟩ | ⟨x, rfl, hx⟩
  · let env : Fx.Env := [some (.obj 0), some (.tup [.int l, .int h]), some (.lst (H.map hdD)), none, none, none]
    obtain ⟨m, hm⟩ : ∃ m : Nat, h - l + 1 = (m : Int) := ⟨(h - l + 1).toNat, by omega⟩
    have hf : bin (addD mkL) (bin subD (bin ixD (getv 1) (fun _ => pur (.int 1))) (bin ixD (getv 1) (fun _ => pur (.int 0)))) (fun _ => pur (.int 1)) env S = .ok (.int m) S := by
      have a := (bin_ok (g := subD) ((bink (g := ixD) (getv_ok (i := 1) (env := env) (S := S) rfl)).trans (ix21 _ _ S)) ((bink (g := ixD) (getv_ok (i := 1) (env := env) (S := S) rfl)).trans (ix20 _ _ S))).trans (show subD (.int h) (.int l) S = .ok (.int (h - l)) S from rfl)
      rw [← hm]
      exact (bink (g := addD mkL) a).trans addi_ok
    obtain ⟨r, S', hr, hF', hd⟩ := drawn (i := 0) (env := env) rfl hf (by omega) (by omega) hF
    have c1 : tst (isi "tuple" (getv 1)) env S = .ok true S := tst_ok rfl
    have e1 := (bin_okS (g := addD mkL) ((bink (g := ixD) (getv_ok (i := 1) (env := env) (S := S) rfl)).trans (ix20 _ _ S)) hd).trans addi_ok
    exact ⟨.int (l + r), S', ⟨by simp [Fx.gd]; omega, wgt_int (k := 12) (by omega), Nat.le_refl _⟩, hF', body_rt rfl (seq_rt ((ifS_t c1).trans (ret_okS e1)))⟩
  · let env : Fx.Env := [some (.obj 0), some (.str x), some (.lst (H.map hdD)), none, none, none]
    have c1 : tst (isi "tuple" (getv 1)) env S = .ok false S := tst_ok rfl
    let F : List D := (H.filter fun h => decide (h.2 = x)).map fun h => .int h.1
    have c2 : cmp [4, 5] mkL (itf (getv 2)) (toTup (toCons (toN 4) (toCons (toN 5) toNil))) (tst (bin eqD (getv 5) (getv 1))) (getv 4) env S = .ok (.lst F) S := by
      rw [cmp_ok (H.map hdD) (fun d => match d with | .tup [_, .str y] => decide (y = x) | _ => false) fstD rfl ?_ (by rw [List.length_map]; exact Nat.le_trans hH.l (by decide))]
      · simp only [F, List.filter_map, List.map_map]
        rfl
      · intro d hd
        obtain ⟨q, hq, rfl⟩ := List.mem_map.mp hd
        refine ⟨[some (.obj 0), some (.str x), some (.lst (H.map hdD)), none, some (.int q.1), some (.str q.2)], rfl, ?_, fun _ => getv_ok rfl⟩
        exact tst_ok ((bin_ok (g := eqD) (getv_ok rfl) (getv_ok rfl)).trans (eqD_str (hH.o q hq).2.gd hx.gd))
    have hFl : F.length ≤ 8 := by
      simp only [F, List.length_map]
      exact Nat.le_trans (List.length_filter_le _ _) hH.l
    have hFm : ∀ d ∈ F, ∃ k : Nat, d = .int k ∧ k < 8 := fun d hd => by
      obtain ⟨q, hq, rfl⟩ := List.mem_map.mp hd
      exact ⟨q.1, rfl, (hH.o q (List.mem_filter.mp hq).1).1⟩
    have t2 := set_ok (i := 3) c2
    let env2 : Fx.Env := [some (.obj 0), some (.str x), some (.lst (H.map hdD)), some (.lst F), none, none]
    have pre : ∀ {T : Store} {v : D}, iteV (orB (tst (bin eqD (getv 3) (dsp mkL (fun _ => pur [])))) (tst (bin eqD (cal (cns (getv 0) (cns (fun _ => pur (.int 4)) (fun _ => pur []))) g_law_draw) (fun _ => pur (.int 0))))) (fun _ => pur .non) (bin ixD (getv 3) (cal (cns (getv 0) (cns (cal (cns (getv 3) (fun _ => pur [])) lenD) (fun _ => pur []))) g_law_draw)) env2 S = .ok v T →
        g_law_value [.obj 0, .str x, .lst (H.map hdD)] S = .ok v T := fun h => body_rt rfl ((seq_nx ((ifS_f c1).trans rfl)).trans ((seq_nx t2).trans (ret_okS h)))
    have e3 : eqD (.lst F) (.lst []) S = .ok (.bl F.isEmpty) S := by
      rw [eqD_eq (n := 8) (m := 0)]
      · rw [eqP_nilL]
      · rw [Fx.gd, gds_mem]
        intro d hd
        obtain ⟨k, rfl, hk⟩ := hFm d hd
        simp [Fx.gd]; omega
      · rfl
      · refine Nat.le_trans (dep_lst (k := 0) fun d hd => ?_) (by decide)
        obtain ⟨k, rfl, hk⟩ := hFm d hd
        exact Nat.le_refl _
      · show 1 ≤ 64; decide
    have c3 := tst_ok ((bin_ok (g := eqD) (getv_ok (i := 3) (env := env2) (S := S) rfl) (nilL _ _)).trans e3)
    have nonI : In 2000 12 0 D.non := ⟨rfl, Nat.zero_le _, Nat.le_refl _⟩
    cases hFe : F.isEmpty with
    | true =>
      rw [hFe] at c3
      exact ⟨.non, S, nonI, hF, pre ((ite_t (or_t c3)).trans rfl)⟩
    | false =>
      rw [hFe] at c3
      obtain ⟨r, S1, hr, hF1, hd⟩ := drawn (i := 0) (env := env2) (f := fun _ => pur (.int 4)) (m := 4) rfl rfl (by decide) (by decide) hF
      have c4 := tst_ok ((bin_okS (g := eqD) (f2 := fun _ => pur (.int 0)) hd rfl).trans (eqD_int _ _ _))
      have c5 := (or_f (g := tst (bin eqD (cal (cns (getv 0) (cns (fun _ => pur (.int 4)) (fun _ => pur []))) g_law_draw) (fun _ => pur (.int 0)))) c3).trans c4
      cases hz : ((r : Int) == 0) with
      | true =>
        rw [hz] at c5
        exact ⟨.non, S1, nonI, hF1, pre ((ite_t c5).trans rfl)⟩
      | false =>
        rw [hz] at c5
        have hpos : 0 < F.length := by cases hq : F with | nil => rw [hq] at hFe; cases hFe | cons _ _ => simp
        obtain ⟨r2, S2, hr2, hF2, hd2⟩ := drawn (i := 0) (env := env2) (f := cal (cns (getv 3) (fun _ => pur [])) lenD) (m := F.length) rfl ((cal1_ok (getv_ok rfl)).trans len_lst) hpos (by omega) hF1
        obtain ⟨k, ek, hk⟩ := hFm F[r2] (List.getElem_mem hr2)
        refine ⟨.int k, S2, ⟨by simp [Fx.gd]; omega, wgt_int (k := 12) (by omega), Nat.le_refl _⟩, hF2, pre ((ite_f c5).trans ((bin_okS (g := ixD) (getv_ok rfl) hd2).trans ((ix_nat hr2).trans (by rw [ek]))))⟩
end K03

end
/-! ## K03z -/
section
namespace K03
variable [Fx.Tabl]
open PySem Fx
open L2 (atI ixN Key)
theorem comp_q {t : D → Fx.Env → Option Fx.Env} {el : Fx.Env → M D} {env0 : Fx.Env} (Iv : Store → Prop) (q p : D → Prop) : ∀ (ds acc : List D) (S : Store), (∀ d ∈ ds, q d) → acc.length + ds.length ≤ sizeLine → Iv S →
    (∀ d S, q d → Iv S → ∃ env1, t d env0 = some env1 ∧ ∃ y S2, el env1 S = .ok y S2 ∧ p y ∧ Iv S2) →
    ∃ ys S', compL mkL t (fun _ => pur true) el env0 ds acc S = .ok (.lst (acc ++ ys)) S' ∧ ys.length = ds.length ∧ (∀ y ∈ ys, p y) ∧ Iv S'
  | [], acc, S, _, hl, h, _ => by
    refine ⟨[], S, ?_, rfl, by simp, h⟩
    unfold compL
    rw [mkL_ok (by simpa using hl)]; simp
  | d :: ds, acc, S, hq, hl, h, step => by
    obtain ⟨env1, h1, y, S2, h2, h3, h4⟩ := step d S (hq d (by simp)) h
    obtain ⟨ys, S', k1, k2, k3, k4⟩ := comp_q Iv q p ds (acc ++ [y]) S2 (fun d hd => hq d (List.mem_cons_of_mem _ hd)) (by simp at hl ⊢; omega) h4 step
    refine ⟨y :: ys, S', ?_, by simp [k2], fun z hz => (List.mem_cons.mp hz).elim (fun e => e ▸ h3) (k3 z), k4⟩
    unfold compL
    have hl2 : acc.length < sizeLine := by simp at hl; omega
    simp only [h1, bdN, pur, if_true, h2, if_pos hl2, k1, List.append_assoc, List.singleton_append]
theorem putD_key {kvs : List (Key × D)} {k k' : Key} {d : D} (h : k' ∈ kvs.map (·.1) ∨ k' = k) : k' ∈ (putD kvs k d).map (·.1) := by
  unfold putD
  split
  · rename_i c
    have e : (kvs.map fun kv => if kv.1 = k then (kv.1, d) else kv).map (·.1) = kvs.map (·.1) := by
      rw [List.map_map]
      refine List.map_congr_left fun kv _ => ?_
      simp only [Function.comp]
      split <;> rfl
    rw [e]
    rcases h with h | rfl
    · exact h
    · obtain ⟨kv, h1, h2⟩ := List.any_eq_true.mp c
      simp only [decide_eq_true_eq] at h2
      exact List.mem_map.mpr ⟨kv, h1, h2⟩
  · rw [List.map_append]
    rcases h with h | rfl
    · exact List.mem_append_left _ h
    · exact List.mem_append_right _ (by simp)
theorem mergeD_key : ∀ {more acc : List (Key × D)} {k : Key}, k ∈ acc.map (·.1) ∨ k ∈ more.map (·.1) → k ∈ (mergeD acc more).map (·.1)
  | [], acc, k, h => by
    rcases h with h | h
    · exact h
    · cases h
  | kv :: more, acc, k, h => by
    show k ∈ (mergeD (putD acc kv.1 kv.2) more).map (·.1)
    refine mergeD_key ?_
    rcases h with h | h
    · exact .inl (putD_key (.inl h))
    · rcases List.mem_cons.mp h with h | h
      · exact .inl (putD_key (.inr h))
      · exact .inr h
theorem valD_some : ∀ {kvs : List (Key × D)} {k : Key}, k ∈ kvs.map (·.1) → ∃ d, valD kvs k = some d
  | kv :: kvs, k, h => by
    unfold valD
    rw [List.find?_cons]
    by_cases e : kv.1 = k
    · exact ⟨kv.2, by simp [e]⟩
    · rcases List.mem_cons.mp h with h | h
      · exact absurd h.symm e
      · obtain ⟨d, hd⟩ := valD_some h
        refine ⟨d, ?_⟩
        rw [decide_eq_false e]
        exact hd
theorem form_there {fs : List Form} {t : Str} (h : ∃ f ∈ fs, f.1 = t) : ∃ g ∈ fs, valD (fkvs fs) (.inr t) = some (.tup (g.2.map row)) := by
  obtain ⟨f, hf, rfl⟩ := h
  obtain ⟨d, hd⟩ := valD_some (kvs := fkvs fs) (k := .inr f.1) (mergeD_key (.inr (List.mem_map.mpr ⟨fkv f, List.mem_map.mpr ⟨f, hf, rfl⟩, rfl⟩)))
  have := (mergeD_mem (valD_in hd)).resolve_left (by simp)
  obtain ⟨g, hg, e⟩ := List.mem_map.mp this
  have e2 : .tup (g.2.map row) = d := congrArg Prod.snd e
  subst e2
  exact ⟨g, hg, hd⟩
theorem int12 {k : Nat} (h : k ≤ 1000) : In 2000 12 0 (.int (k : Int)) := ⟨by simp [Fx.gd]; omega, wgt_int (k := 12) (by omega), Nat.le_refl _⟩
abbrev ObjOk3 (d : D) : Prop := In 2000 80 2 d
theorem vals_in {ys : List D} (h : ∀ y ∈ ys, In 2000 12 0 y) (hl : ys.length ≤ 4) : In 2000 52 1 (.tup ys) := by
  refine In.tup (P := 0) (fun d hd => ⟨(h d hd).g, (h d hd).p⟩) ?_
  have := sw_map_le id 12 (xs := ys) fun y hy => (h y hy).w
  rw [List.map_id] at this
  have : ys.length * 13 ≤ 4 * 13 := Nat.mul_le_mul_right _ hl
  omega
theorem objrow_in {k : Nat} {t : Str} {ys : List D} (hk : k ≤ 1000) (ht : okN t) (h : ∀ y ∈ ys, In 2000 12 0 y) (hl : ys.length ≤ 4) : ObjOk3 (.tup [.int (k : Int), .str t, .tup ys]) := by
  have v := vals_in h hl
  have i := int12 hk
  have w1 : wgt (.str t) ≤ 8 := ht.2
  refine In.tup (P := 1) (fun d hd => ?_) ?_
  · simp only [List.mem_cons, List.not_mem_nil, or_false] at hd
    rcases hd with rfl | rfl | rfl
    · exact ⟨i.g, Nat.le_trans i.p (by decide)⟩
    · exact ⟨ht.gd, Nat.zero_le _⟩
    · exact ⟨v.g, v.p⟩
  · rw [sw_cons, sw_cons, sw_cons, sw_nil]; have := v.w; have := i.w; omega
theorem objs_in {xs : List D} (h : ∀ x ∈ xs, ObjOk3 x) (hl : xs.length ≤ 8) : In 2000 648 3 (.tup xs) := by
  refine In.tup (P := 2) (fun d hd => ⟨(h d hd).g, (h d hd).p⟩) ?_
  have := sw_map_le id 80 (xs := xs) fun y hy => (h y hy).w
  rw [List.map_id] at this
  have : xs.length * 81 ≤ 8 * 81 := Nat.mul_le_mul_right _ hl
  omega
theorem book_in {s x : D} {k : Nat} (hs : In 2000 525 5 s) (hk : k ≤ 1000) (hx : In 2000 648 3 x) : In 2000 1200 6 (.tup [s, .int (k : Int), x]) := by
  have i := int12 hk
  refine In.tup (P := 5) (fun d hd => ?_) ?_
  · simp only [List.mem_cons, List.not_mem_nil, or_false] at hd
    rcases hd with rfl | rfl | rfl
    · exact ⟨hs.g, hs.p⟩
    · exact ⟨i.g, Nat.le_trans i.p (by decide)⟩
    · exact ⟨hx.g, Nat.le_trans hx.p (by decide)⟩
  · rw [sw_cons, sw_cons, sw_cons, sw_nil]; have := hs.w; have := i.w; have := hx.w; omega
/-- the classes of the heads -/
def InSc (fs : List Form) (H : List Hd) : Prop := ∀ h ∈ H, ∃ f ∈ fs, f.1 = h.2
abbrev envS (sd : D) (p : Nat) (x2 x3 z5 z6 z7 z8 z9 : Option D) : Fx.Env := [some (.obj 0), some sd, x2, x3, some (.obj (p + 1 + 1 + 1)), z5, z6, z7, z8, z9]
def bS1 : Fx.Env → MS := (ifS (tst (bin gtD (cal (cns (getv 0) (cns (fun _ => pur (.int 4)) (fun _ => pur []))) g_law_draw) (fun _ => pur (.int 0)))) (drop (met (getv 2) (cns (dsp mkT (cns (getv 5) (cns (bin ixD (bin ixD (getv 1) (cal (cns (getv 0) (cns (cal (cns (getv 1) (fun _ => pur [])) lenD) (fun _ => pur []))) g_law_draw)) (fun _ => pur (.int 0))) (fun _ => pur [])))) (fun _ => pur [])) appD)) pass)
theorem bS1_ok {fs : List Form} {p k : Nat} {R0 R S : Store} {H : List Hd} {x3 z6 z7 z8 z9 : Option D} (hfs : ∀ f ∈ fs, FormOk f) (h1 : 1 ≤ fs.length) (h3 : fs.length ≤ 3) (hk : k < 8) (hF : Fd S R) (hE : Ext R0 R) (hp : R0.length ≤ p)
    (hH : ∀ h ∈ H, h.1 < 8 ∧ okN h.2) (hl : H.length ≤ 100) (hI : InSc fs H) (hR : R[p]? = some (some (.lst (H.map hdD)))) :
    ∃ S' R' H', bS1 (envS (.tup (fs.map frow)) p (some (.obj (p + 1))) x3 (some (.int (k : Nat))) z6 z7 z8 z9) S = .ok (.nx (envS (.tup (fs.map frow)) p (some (.obj (p + 1))) x3 (some (.int (k : Nat))) z6 z7 z8 z9)) S' ∧ Fd S' R' ∧ Ext R0 R' ∧
      (∀ h ∈ H', h.1 < 8 ∧ okN h.2) ∧ H'.length ≤ H.length + 1 ∧ InSc fs H' ∧ R'[p]? = some (some (.lst (H'.map hdD))) ∧ ∀ j, j ≠ p → R'[j]? = R[j]? := by
  let env : Fx.Env := envS (.tup (fs.map frow)) p (some (.obj (p + 1))) x3 (some (.int (k : Nat))) z6 z7 z8 z9
  obtain ⟨r, S1, hr, hF1, hd⟩ := drawn (i := 0) (env := env) (f := fun _ => pur (.int 4)) (m := 4) rfl rfl (by decide) (by decide) hF
  have c1 := tst_ok ((bin_okS (g := gtD) (f2 := fun _ => pur (.int 0)) hd rfl).trans (show gtD (.int r) (.int 0) S1 = .ok (.bl (decide ((0 : Int) < r))) S1 from rfl))
  by_cases hz : (0 : Int) < r
  · rw [decide_eq_true hz] at c1
    obtain ⟨r2, S2, hr2, hF2, hd2⟩ := drawn (i := 0) (env := env) (f := cal (cns (getv 1) (fun _ => pur [])) lenD) (m := fs.length) rfl ((cal1_ok (getv_ok rfl)).trans (by rw [lenT, List.length_map])) (by omega) (by omega) hF1
    let f : Form := fs[r2]
    have hfm : f ∈ fs := List.getElem_mem hr2
    have e1 : bin ixD (bin ixD (getv 1) (cal (cns (getv 0) (cns (cal (cns (getv 1) (fun _ => pur [])) lenD) (fun _ => pur []))) g_law_draw)) (fun _ => pur (.int 0)) env S1 = .ok (.str f.1) S2 :=
      (bin_okS (g := ixD) (f2 := fun _ => pur (.int 0)) ((bin_okS (g := ixD) (getv_ok rfl) hd2).trans (ixTn (v := frow f) (by rw [List.getElem?_map, List.getElem?_eq_getElem hr2]; rfl))) rfl).trans (ix20 _ _ S2)
    have e2 : dsp mkT (cns (getv 5) (cns (bin ixD (bin ixD (getv 1) (cal (cns (getv 0) (cns (cal (cns (getv 1) (fun _ => pur [])) lenD) (fun _ => pur []))) g_law_draw)) (fun _ => pur (.int 0))) (fun _ => pur []))) env S1 = .ok (hdD (k, f.1)) S2 := by
      have g5 : getv 5 env S1 = .ok (.int (k : Nat)) S1 := getv_ok rfl
      rw [dsp]
      simp only [bd, cns, g5, e1, pur]
      exact mkT_ok sz2
    obtain ⟨hF3, e3⟩ := appd_ok (i := 2) (n := p) (env := env) (y := hdD (k, f.1)) rfl hF1 hR e2 hF2 hR (by rw [List.length_map]; omega)
    refine ⟨_, _, H ++ [(k, f.1)], (ifS_t c1).trans e3, hF3, hE.set hp _, fun h hh => ?_, by simp, fun h hh => ?_, ?_, fun j hj => List.getElem?_set_ne (Ne.symm hj)⟩
    · rcases List.mem_append.mp hh with hh | hh
      · exact hH h hh
      · rw [List.mem_singleton.mp hh]; exact ⟨hk, (hfs f hfm).n⟩
    · rcases List.mem_append.mp hh with hh | hh
      · exact hI h hh
      · rw [List.mem_singleton.mp hh]; exact ⟨f, hfm, rfl⟩
    · rw [List.getElem?_set_self (Fx.lt_of_some hR), List.map_append]; rfl
  · rw [decide_eq_false hz] at c1
    exact ⟨S1, R, H, (ifS_f c1).trans rfl, hF1, hE, hH, Nat.le_succ _, hI, hR, fun _ _ => rfl⟩
end K03

end
/-! ## K03z1 -/
section
namespace K03
variable [Fx.Tabl]
open PySem Fx
open L2 (atI ixN Key)
theorem ixT {xs : List D} {i : Int} {d : D} {S : Store} (h : atI xs i = some d) : ixD (.tup xs) (.int i) S = .ok d S := by
  simp only [ixD, seqLT, bd, pur, h, opt]
theorem ixL {xs : List D} {i : Int} {d : D} {S : Store} (h : atI xs i = some d) : ixD (.lst xs) (.int i) S = .ok d S := by
  simp only [ixD, seqLT, seqL, seqM, bd, pur, h, opt]
theorem atI_last {xs : List D} (h : 0 < xs.length) : atI xs (-1) = some xs[xs.length - 1] := by
  unfold atI ixN
  rw [if_neg (by omega), if_pos (by omega)]
  show xs[((xs.length : Int) + -1).toNat]? = _
  rw [show ((xs.length : Int) + -1).toNat = xs.length - 1 by omega, List.getElem?_eq_getElem]
def elV : Fx.Env → M D := cal (cns (getv 0) (cns (getv 8) (cns (getv 2) (fun _ => pur [])))) g_law_value
def bS2 : Fx.Env → MS := (drop (met (getv 3) (cns (dsp mkT (cns (getv 5) (cns (getv 6) (cns (cal (cns (cmp [7, 8] mkL (itf (bin dgetD (getv 4) (getv 6))) (toTup (toCons (toN 7) (toCons (toN 8) toNil))) (fun _ => pur true) elV) (fun _ => pur [])) tupleD) (fun _ => pur []))))) (fun _ => pur [])) appD))
theorem tup_lst {ds : List D} {S : Store} (h : ds.length ≤ sizeLine) : tupleD [.lst ds] S = .ok (.tup ds) S := by
  simp only [tupleD, bd, seqL, seqM, pur]
  exact mkT_ok h
theorem bS2_ok {fs : List Form} {p : Nat} {R0 R S : Store} {H : List Hd} {xs : List D} {h : Hd} {z5 z6 z9 : Option D} (hfs : ∀ f ∈ fs, FormOk f) (hH : HdsOk H) (hh : h ∈ H) (hI : InSc fs H) (hF : Fd S R) (hE : Ext R0 R) (hp : R0.length ≤ p)
    (hx : ∀ x ∈ xs, ObjOk3 x) (hl : xs.length < 100) (hR : R[p + 1]? = some (some (.lst xs))) (hD : R[p + 1 + 1]? = some (some (.dct (fkvs fs)))) :
    ∃ S' R' y, bS2 (envS (.tup (fs.map frow)) p (some (.lst (H.map hdD))) (some (.obj (p + 1 + 1))) (some (.int h.1)) (some (.str h.2)) none none z9) S = .ok (.nx (envS (.tup (fs.map frow)) p (some (.lst (H.map hdD))) (some (.obj (p + 1 + 1))) (some (.int h.1)) (some (.str h.2)) none none z9)) S' ∧ Fd S' R' ∧ Ext R0 R' ∧
      ObjOk3 y ∧ R'[p + 1]? = some (some (.lst (xs ++ [y]))) ∧ R'[p + 1 + 1]? = some (some (.dct (fkvs fs))) := by
  let env : Fx.Env := envS (.tup (fs.map frow)) p (some (.lst (H.map hdD))) (some (.obj (p + 1 + 1))) (some (.int h.1)) (some (.str h.2)) none none z9
  obtain ⟨g, hg, hv⟩ := form_there (hI h hh)
  have hS : S[p + 1 + 1 + 1]? = some (some (.dct (fkvs fs))) := by rw [hF.get]; exact hD
  have e1 : bin dgetD (getv 4) (getv 6) env S = .ok (.tup (g.2.map row)) S := by
    have g4 : getv 4 env S = .ok (.obj (p + 1 + 1 + 1)) S := getv_ok rfl
    rw [bin_ok g4 (getv_ok (i := 6) rfl)]
    simp only [dgetD, objK, bd, hS, keyOf, opt, pur, hv]
  have ok := hfs g hg
  obtain ⟨ys, S1, c1, c2, c3, hF1⟩ := comp_q (t := (toTup (toCons (toN 7) (toCons (toN 8) toNil)))) (el := elV) (env0 := env) (fun S => Fd S R) (fun d => ∃ q : Str × D, d = row q ∧ SortOk q.2) (fun y => In 2000 12 0 y) (g.2.map row) [] S
    (fun d hd => by obtain ⟨q, hq, rfl⟩ := List.mem_map.mp hd; exact ⟨q, rfl, (ok.e q hq).2⟩) (by rw [List.length_map]; exact sz _ (by have := ok.l; simp; omega)) hF (by
      rintro d S ⟨q, rfl, hs⟩ hF
      refine ⟨_, rfl, ?_⟩
      obtain ⟨v, S', h1, h2, h3⟩ := value_ok hF hs hH
      exact ⟨v, S', (cal3_ok (getv_ok rfl) (getv_ok rfl) (getv_ok rfl)).trans h3, h1, h2⟩)
  have c2 : ys.length = g.2.length := by rw [c2, List.length_map]
  have yl : ys.length ≤ 4 := by have := ok.l; omega
  have c4 : cmp [7, 8] mkL (itf (bin dgetD (getv 4) (getv 6))) (toTup (toCons (toN 7) (toCons (toN 8) toNil))) (fun _ => pur true) elV env S = .ok (.lst ys) S1 := by
    have : itf (bin dgetD (getv 4) (getv 6)) env S = .ok (g.2.map row) S := by simp only [itf, bd, e1]; rfl
    simp only [cmp, bd, this]
    exact c1
  have c5 := (cal1_okS c4).trans (tup_lst (S := S1) (sz _ (by omega)))
  have hh2 := hH.o h hh
  have c6 : dsp mkT (cns (getv 5) (cns (getv 6) (cns (cal (cns (cmp [7, 8] mkL (itf (bin dgetD (getv 4) (getv 6))) (toTup (toCons (toN 7) (toCons (toN 8) toNil))) (fun _ => pur true) elV) (fun _ => pur [])) tupleD) (fun _ => pur [])))) env S = .ok (.tup [.int h.1, .str h.2, .tup ys]) S1 := by
    have g5 : getv 5 env S = .ok (.int h.1) S := getv_ok rfl
    have g6 : getv 6 env S = .ok (.str h.2) S := getv_ok rfl
    rw [dsp]
    simp only [bd, cns, g5, g6, c5, pur]
    exact mkT_ok (sz _ (by show 3 ≤ 300000; decide))
  obtain ⟨hF3, e3⟩ := appd_ok (i := 3) (n := p + 1) (env := env) rfl hF hR c6 hF1 hR (by omega)
  refine ⟨_, _, _, e3, hF3, hE.set (by omega) _, objrow_in (by omega) hh2.2 c3 yl, List.getElem?_set_self (Fx.lt_of_some hR), ?_⟩
  rw [List.getElem?_set_ne (by omega)]; exact hD
theorem store_ok {fs : List Form} {R S : Store} (hfs : ∀ f ∈ fs, FormOk f) (h1 : 1 ≤ fs.length) (h3 : fs.length ≤ 3) (hF : Fd S R) :
    ∃ (k : Nat) (x : D) (S' R' : Store), k ≤ 8 ∧ In 2000 648 3 x ∧ Fd S' R' ∧ Ext R R' ∧ g_law_store [.obj 0, .tup (fs.map frow)] S = .ok (.tup [.tup (fs.map frow), .int k, x]) S' := by
  let p := R.length
  let sd : D := .tup (fs.map frow)
  let S1 : Store := S ++ [some (.lst [])]
  let R1 : Store := R ++ [some (.lst [])]
  have hF1 : Fd S1 R1 := hF.app _
  let S2 : Store := S1 ++ [some (.lst [])]
  let R2 : Store := R1 ++ [some (.lst [])]
  have hF2 : Fd S2 R2 := hF1.app _
  let S3 : Store := S2 ++ [some (.dct (fkvs fs))]
  let R3 : Store := R2 ++ [some (.dct (fkvs fs))]
  have hF3 : Fd S3 R3 := hF2.app _
  have l1 : S.length = p + 1 := hF.len
  have l2 : S1.length = p + 1 + 1 := by rw [hF1.len]; simp [R1, p]
  have l3 : S2.length = p + 1 + 1 + 1 := by rw [hF2.len]; simp [R2, R1, p]
  let e0 : Fx.Env := [some (.obj 0), some sd, none, none, none, none, none, none, none, none]
  have a1 : dsp mkN (fun _ => pur []) e0 S = .ok (.obj (p + 1)) S1 := by rw [mkN_ok (ds := []) rfl (sz _ (by decide)), l1]
  have a2 : dsp mkN (fun _ => pur []) e0 S1 = .ok (.obj (p + 1 + 1)) S2 := by rw [mkN_ok (ds := []) rfl (sz _ (by decide)), l2]
  have a3 : cal (cns (getv 1) (fun _ => pur [])) dictD e0 S2 = .ok (.obj (p + 1 + 1 + 1)) S3 := (cal1_ok (getv_ok rfl)).trans (by rw [dict_sc, l3])
  let e1 : Fx.Env := envS sd p (some (.obj (p + 1))) (some (.obj (p + 1 + 1))) none none none none none
  have s1 : asg (dsp mkT (cns (dsp mkN (fun _ => pur [])) (cns (dsp mkN (fun _ => pur [])) (cns (cal (cns (getv 1) (fun _ => pur [])) dictD) (fun _ => pur []))))) (toTup (toCons (toN 2) (toCons (toN 3) (toCons (toN 4) toNil)))) e0 S = .ok (.nx e1) S3 := by
    have : dsp mkT (cns (dsp mkN (fun _ => pur [])) (cns (dsp mkN (fun _ => pur [])) (cns (cal (cns (getv 1) (fun _ => pur [])) dictD) (fun _ => pur [])))) e0 S = .ok (.tup [.obj (p + 1), .obj (p + 1 + 1), .obj (p + 1 + 1 + 1)]) S3 := by
      rw [dsp]
      simp only [bd, cns, a1, a2, a3, pur]
      rw [mkT_ok (sz _ (by show 3 ≤ 300000; decide))]
    simp only [asg, lft, this]; rfl
  -- the heads
  obtain ⟨env4, S4, e4, z5, R4, H, rfl, hF4, hE4, o4, l4, i4, h4, f4, d4⟩ := loop_st (t := toN 5) (b := bS1) (fun i env S => ∃ z5 R' H, env = envS sd p (some (.obj (p + 1))) (some (.obj (p + 1 + 1))) z5 none none none none ∧ Fd S R' ∧ Ext R R' ∧ (∀ h ∈ H, h.1 < 8 ∧ okN h.2) ∧ H.length ≤ i ∧ InSc fs H ∧ R'[p]? = some (some (.lst (H.map hdD))) ∧ R'[p + 1]? = some (some (.lst [])) ∧ R'[p + 1 + 1]? = some (some (.dct (fkvs fs))))
    8 (fun d => ∃ k : Nat, k < 8 ∧ d = .int k) (rng 0 ((8 : Nat) : Int)) 0 e1 S3 (by rw [rng_len]) (fun d hd => by
      obtain ⟨j, e⟩ := List.mem_iff_getElem?.mp hd
      exact ⟨j, (rng_get e).2, (rng_get e).1⟩)
    ⟨none, R3, [], rfl, hF3, ((Ext.app R _).trans (Ext.app _ _)).trans (Ext.app _ _), by simp, Nat.le_refl _, (fun h hh => by cases hh), by simp [R3, R2, R1, p], by simp [R3, R2, R1, p], by rw [show p + 1 + 1 = R2.length by simp [R2, R1, p]]; simp [R3]⟩ (by
      rintro i hi d ⟨k, hk, rfl⟩ env S ⟨z5, R', H, rfl, hF, hE, o, l, hi2, hr, hf, hd⟩
      refine ⟨_, rfl, ?_⟩
      obtain ⟨S', R'', H', b1, b2, b3, b4, b5, b6, b7, b8⟩ := bS1_ok (x3 := some (.obj (p + 1 + 1))) (z6 := none) (z7 := none) (z8 := none) (z9 := none) hfs h1 h3 hk hF hE (Nat.le_refl _) o (by omega) hi2 hr
      exact ⟨_, S', b1, _, R'', H', rfl, b2, b3, b4, by omega, b6, b7, (b8 _ (by omega)).trans hf, (b8 _ (by omega)).trans hd⟩)
  have hH : HdsOk H := ⟨o4, l4⟩
  have i8 : itr1 (cns (fun _ => pur (.int 8)) (fun _ => pur [])) e1 S3 = .ok (rng 0 ((8 : Nat) : Int)) S3 := itr1_len (n := 8) rfl (by decide)
  have t2 := (for_ok i8).trans e4
  -- the heads stand
  have hS4 : S4[p + 1]? = some (some (.lst (H.map hdD))) := by rw [hF4.get]; exact h4
  let S5 : Store := S4.set (p + 1) none
  let R5 : Store := R4.set p none
  have hF5 : Fd S5 R5 := hF4.set _ _
  let e5 : Fx.Env := envS sd p (some (.lst (H.map hdD))) (some (.obj (p + 1 + 1))) z5 none none none none
  have fr1 : ∀ b : Fx.Env → MS, frzV 2 b (envS sd p (some (.obj (p + 1))) (some (.obj (p + 1 + 1))) z5 none none none none) S4 = b e5 S5 := fun b => by
    show (match S4[p + 1]? with | some (some (.lst xs)) => b (e5.set 2 (some (.lst xs))) (S4.set (p + 1) none) | _ => .no) = _
    rw [hS4]; rfl
  -- the objects
  obtain ⟨env6, S6, e6, y5, y6, R6, xs, rfl, hF6, hE6, o6, l6, f6⟩ := loop_st (t := toTup (toCons (toN 5) (toCons (toN 6) toNil))) (b := bS2) (fun i env S => ∃ z5 z6 R' xs, env = envS sd p (some (.lst (H.map hdD))) (some (.obj (p + 1 + 1))) z5 z6 none none none ∧ Fd S R' ∧ Ext R R' ∧ (∀ x ∈ xs, ObjOk3 x) ∧ xs.length ≤ i ∧ R'[p + 1]? = some (some (.lst xs)) ∧ R'[p + 1 + 1]? = some (some (.dct (fkvs fs))))
    H.length (fun d => ∃ h ∈ H, d = hdD h) (H.map hdD) 0 e5 S5 (by rw [List.length_map]; omega) (fun d hd => by
      obtain ⟨h, hh, rfl⟩ := List.mem_map.mp hd
      exact ⟨h, hh, rfl⟩)
    ⟨z5, none, R5, [], rfl, hF5, hE4.set (Nat.le_refl _) _, by simp, Nat.le_refl _, by rw [List.getElem?_set_ne (by omega)]; exact f4, by rw [List.getElem?_set_ne (by omega)]; exact d4⟩ (by
      rintro i hi d ⟨h, hh, rfl⟩ env S ⟨z5, z6, R', xs, rfl, hF, hE, o, l, hr, hd⟩
      refine ⟨_, rfl, ?_⟩
      obtain ⟨S', R'', y, b1, b2, b3, b4, b5, b6⟩ := bS2_ok (z5 := z5) (z6 := z6) (z9 := none) hfs hH hh i4 hF hE (Nat.le_refl _) o (by have := hH.l; omega) hr hd
      exact ⟨_, S', b1, _, _, R'', xs ++ [y], rfl, b2, b3, fun x hx => (List.mem_append.mp hx).elim (o x) fun e => by rw [List.mem_singleton.mp e]; exact b4, by simp; omega, b5, b6⟩)
  have i9 : itf (getv 2) e5 S5 = .ok (H.map hdD) S5 := rfl
  have t3 := (for_ok i9).trans e6
  have hl8 := hH.l
  have hS6 : S6[p + 1 + 1]? = some (some (.lst xs)) := by rw [hF6.get]; exact f6.1
  let S7 : Store := S6.set (p + 1 + 1) none
  let R7 : Store := R6.set (p + 1) none
  have hF7 : Fd S7 R7 := hF6.set _ _
  let e7 : Fx.Env := envS sd p (some (.lst (H.map hdD))) (some (.lst xs)) y5 y6 none none none
  have fr2 : ∀ b : Fx.Env → MS, frzV 3 b (envS sd p (some (.lst (H.map hdD))) (some (.obj (p + 1 + 1))) y5 y6 none none none) S6 = b e7 S7 := fun b => by
    show (match S6[p + 1 + 1]? with | some (some (.lst xs)) => b (e7.set 3 (some (.lst xs))) (S6.set (p + 1 + 1) none) | _ => .no) = _
    rw [hS6]; rfl
  -- the top
  have n1 : neD (.lst (H.map hdD)) (.lst []) S7 = .ok (.bl (!(H.map hdD).isEmpty)) S7 := by
    rw [neD_eq (n := 2000) (m := 0)]
    · rw [eqP_nilL]
    · rw [Fx.gd, gds_mem]
      intro d hd
      obtain ⟨h, hh, rfl⟩ := List.mem_map.mp hd
      rw [Fx.gd, gds_mem]
      intro d hd
      simp only [List.mem_cons, List.not_mem_nil, or_false] at hd
      rcases hd with rfl | rfl
      · have := (o4 h hh).1; simp [Fx.gd]; omega
      · exact (o4 h hh).2.gd
    · rfl
    · refine Nat.le_trans (dep_lst (k := 1) fun d hd => ?_) (by decide)
      obtain ⟨h, hh, rfl⟩ := List.mem_map.mp hd
      exact Nat.le_refl _
    · show 1 ≤ 64; decide
  have c3 := tst_ok ((bin_ok (g := neD) (getv_ok (i := 2) (env := e7) (S := S7) rfl) (nilL _ _)).trans n1)
  obtain ⟨k, S8, hk, hF8, e8⟩ : ∃ (k : Nat) (S8 : Store), k ≤ 8 ∧ Fd S8 R7 ∧ iteV (andB (tst (bin neD (getv 2) (dsp mkL (fun _ => pur [])))) (tst (bin eqD (cal (cns (getv 0) (cns (fun _ => pur (.int 2)) (fun _ => pur []))) g_law_draw) (fun _ => pur (.int 0))))) (bin (addD mkL) (bin ixD (bin ixD (getv 2) (un negD (fun _ => pur (.int 1)))) (fun _ => pur (.int 0))) (fun _ => pur (.int 1))) (fun _ => pur (.int 8)) e7 S7 = .ok (.int k) S8 := by
    cases hz : (H.map hdD).isEmpty with
    | true =>
      rw [hz] at c3
      exact ⟨8, S7, Nat.le_refl _, hF7, (ite_f (and_ff c3)).trans rfl⟩
    | false =>
      rw [hz] at c3
      obtain ⟨r, S8, hr, hF8, hd⟩ := drawn (i := 0) (env := e7) (f := fun _ => pur (.int 2)) (m := 2) rfl rfl (by decide) (by decide) hF7
      have c4 := tst_ok ((bin_okS (g := eqD) (f2 := fun _ => pur (.int 0)) hd rfl).trans (eqD_int _ _ _))
      have c5 := (and_tt (g := tst (bin eqD (cal (cns (getv 0) (cns (fun _ => pur (.int 2)) (fun _ => pur []))) g_law_draw) (fun _ => pur (.int 0)))) c3).trans c4
      cases hz2 : ((r : Int) == 0) with
      | false =>
        rw [hz2] at c5
        exact ⟨8, S8, Nat.le_refl _, hF8, (ite_f c5).trans rfl⟩
      | true =>
        rw [hz2] at c5
        have hpos : 0 < (H.map hdD).length := by cases hq : H.map hdD with | nil => rw [hq] at hz; cases hz | cons _ _ => simp
        have hpos2 : H.length - 1 < H.length := by rw [List.length_map] at hpos; omega
        let h : Hd := H[H.length - 1]
        have hh : h ∈ H := List.getElem_mem _
        have x1 : ixD (.lst (H.map hdD)) (.int (-1)) S8 = .ok (hdD h) S8 := ixL (by
          rw [atI_last hpos, List.getElem_map]; simp [h])
        have x2 := (bin_ok (g := ixD) (f1 := getv 2) (f2 := un negD (fun _ => pur (.int 1))) (b := .int (-1)) (env := e7) (S := S8) (getv_ok rfl) rfl).trans x1
        have x3 := (bink (g := ixD) (d := .int 0) x2).trans (ix20 _ _ S8)
        have x4 := (bink (g := addD mkL) (d := .int 1) x3).trans addi_ok
        exact ⟨h.1 + 1, S8, (o4 h hh).1, hF8, (ite_t c5).trans x4⟩
  have s8 := set_ok (i := 9) e8
  have s9 : Fx.ret (dsp mkT (cns (getv 1) (cns (getv 9) (cns (cal (cns (getv 3) (fun _ => pur [])) tupleD) (fun _ => pur []))))) (envS sd p (some (.lst (H.map hdD))) (some (.lst xs)) y5 y6 none none (some (.int k))) S8 = .ok (.rt (.tup [sd, .int k, .tup xs])) S8 := ret_okS (by
    have g1 : getv 1 (envS sd p (some (.lst (H.map hdD))) (some (.lst xs)) y5 y6 none none (some (.int k))) S8 = .ok sd S8 := getv_ok rfl
    have g9 : getv 9 (envS sd p (some (.lst (H.map hdD))) (some (.lst xs)) y5 y6 none none (some (.int k))) S8 = .ok (.int k) S8 := getv_ok rfl
    have g3 := (cal1_ok (getv_ok (i := 3) (env := envS sd p (some (.lst (H.map hdD))) (some (.lst xs)) y5 y6 none none (some (.int k))) (S := S8) rfl)).trans (tup_lst (ds := xs) (S := S8) (sz _ (by omega)))
    rw [dsp]
    simp only [bd, cns, g1, g9, g3, pur]
    exact mkT_ok (sz _ (by show 3 ≤ 300000; decide)))
  exact ⟨k, .tup xs, S8, R7, hk, objs_in o6 (by omega), hF8, hE6.set (Nat.le_succ _) _, body_rt rfl ((seq_nx s1).trans ((seq_nx t2).trans ((fr1 _).trans ((seq_nx t3).trans ((fr2 _).trans ((seq_nx s8).trans s9))))))⟩
end K03

end
/-! ## K03z2 -/
section
namespace K03
variable [Fx.Tabl]
open PySem Fx
open L2 (atI ixN Key)
/-! ### the base store -/
def baSc : List Form := [("a", [("n", .tup [.int 0, .int 9]), ("to", .str "b")]), ("b", [("m", .tup [.int (-3), .int 3]), ("of", .str "a"), ("self", .str "b")]), ("c", [])]
def baOb : List Ob := [(0, "a", [.int 0, .int 2]), (2, "b", [.int (-3), .int 0, .int 2]), (3, "c", []), (5, "a", [.int 9, .non]), (6, "b", [.int 3, .int 5, .non])]
abbrev baseD : D := stD baSc 7 baOb
theorem base_run (S : Store) : g_law_base [] S = .ok baseD S := by kernel_rfl
theorem base_chk : (gd 2000000 baseD && decide (wgt baseD ≤ big) && decide (dep baseD ≤ 60) && shapeP baseD && (faultS baSc 7 baOb).isNone) = true := by decide +kernel
theorem base_ok : Ok 2000000 baseD := by
  have c := base_chk
  simp only [Bool.and_eq_true, decide_eq_true_eq] at c
  exact ⟨c.1.1.1.1, c.1.1.1.2, c.1.1.2⟩
theorem base_shape : shapeP baseD = true := by
  have c := base_chk
  simp only [Bool.and_eq_true, decide_eq_true_eq] at c
  exact c.1.2
theorem base_fault : faultS baSc 7 baOb = none := by
  have c := base_chk
  simp only [Bool.and_eq_true, decide_eq_true_eq] at c
  exact Option.isNone_iff_eq_none.mp c.2
theorem row_inj (a b : Str × D) (h : row a = row b) : a = b := by
  have e1 : [D.str a.1, a.2] = [D.str b.1, b.2] := D.tup.inj h
  injection e1 with h1 h2
  injection h2 with h2 _
  exact Prod.ext (D.str.inj h1) h2
theorem frow_inj (a b : Form) (h : frow a = frow b) : a = b := by
  have e1 : [D.str a.1, D.tup (a.2.map row)] = [D.str b.1, D.tup (b.2.map row)] := D.tup.inj h
  injection e1 with h1 h2
  injection h2 with h2 _
  exact Prod.ext (D.str.inj h1) ((List.map_inj_right row_inj).mp (D.tup.inj h2))
theorem ob_inj (a b : Ob) (h : obD a = obD b) : a = b := by
  have e1 : [D.int a.1, D.str a.2.1, D.tup a.2.2] = [D.int b.1, D.str b.2.1, D.tup b.2.2] := D.tup.inj h
  injection e1 with h1 h2
  injection h2 with h2 h3
  injection h3 with h3 _
  exact Prod.ext (D.int.inj h1) (Prod.ext (D.str.inj h2) (D.tup.inj h3))
theorem base_st : StOk 2000000 baSc 7 baOb := by
  obtain ⟨sc, lim, os, e, h⟩ := shape_inv base_ok base_shape
  have e1 := D.tup.inj e
  injection e1 with h1 h2
  injection h2 with h2 h3
  injection h3 with h3 _
  have e1 := (List.map_inj_right frow_inj).mp (D.tup.inj h1)
  have e2 := D.int.inj h2
  have e3 := (List.map_inj_right ob_inj).mp (D.tup.inj h3)
  rw [e1, e2, e3]; exact h
theorem base_out (S : Store) : outc (g_lets_plain [baseD]) S none (outP baSc baOb) := by
  have h := lets_plain_ok S base_st base_ok base_shape
  rw [base_fault] at h
  exact h
/-! ### the end -/
abbrev endD : D := .lst [outP baSc baOb, .bl true]
theorem end_chk : (gd 2000000 endD && decide (wgt endD ≤ 200) && decide (dep endD ≤ 64)) = true := by decide +kernel
theorem end_in : gd 2000000 endD = true ∧ wgt endD ≤ 200 ∧ dep endD ≤ 64 := by
  have c := end_chk
  simp only [Bool.and_eq_true, decide_eq_true_eq] at c
  exact ⟨c.1.1, c.1.2, c.2⟩
def fin3 : Fx.Env → MS := Fx.ret (bin eqD (cal (cns (dsp mkL (cns (calK 1 [0] (cns (fun _ => g_law_base []) (fun _ => pur [])) g_lets_plain) (cns (calK 1 [0] (cns (fun _ => g_law_base []) (fun _ => pur [])) g_is_plain) (fun _ => pur [])))) (fun _ => pur [])) reprD) (cal (cns (dsp mkL (cns (dsp mkT (cns (fun _ => pur (.int 3)) (cns (fun _ => pur (.int 5)) (fun _ => pur [])))) (cns (fun _ => pur (.bl true)) (fun _ => pur [])))) (fun _ => pur [])) reprD))
theorem fin3_ok (env : Fx.Env) (S : Store) : ∃ S', fin3 env S = .ok (.rt (.bl true)) S' := by
  obtain ⟨S1, h1⟩ := base_out S
  obtain ⟨S2, h2⟩ := is_plain_of (base_out S1)
  have k1 : calK 1 [0] (cns (fun _ => g_law_base []) (fun _ => pur [])) g_lets_plain env S = .ok (outP baSc baOb) S1 := by
    simp only [calK, cns, bd, base_run, pur]
    exact h1
  have k2 : calK 1 [0] (cns (fun _ => g_law_base []) (fun _ => pur [])) g_is_plain env S1 = .ok (.bl true) S2 := by
    simp only [calK, cns, bd, base_run, pur]
    exact h2
  have d1 : dsp mkL (cns (calK 1 [0] (cns (fun _ => g_law_base []) (fun _ => pur [])) g_lets_plain) (cns (calK 1 [0] (cns (fun _ => g_law_base []) (fun _ => pur [])) g_is_plain) (fun _ => pur []))) env S = .ok endD S2 := by
    rw [dsp]
    simp only [cns, bd, k1, k2, pur]
    exact mkL_ok (sz _ (by show 2 ≤ 300000; decide))
  have d2 : dsp mkL (cns (dsp mkT (cns (fun _ => pur (.int 3)) (cns (fun _ => pur (.int 5)) (fun _ => pur [])))) (cns (fun _ => pur (.bl true)) (fun _ => pur []))) env S2 = .ok endD S2 := rfl
  have r1 := (cal1_okS (g := reprD) d1).trans (repr_of (S := S2) end_in)
  have r2 := (cal1_okS (g := reprD) d2).trans (repr_of (S := S2) end_in)
  exact ⟨S2, ret_okS ((bin_okS r1 r2).trans (str_eq (asc_of60 end_in.1)))⟩
theorem comp_none {t : D → Fx.Env → Option Fx.Env} {c : Fx.Env → M Bool} {el : Fx.Env → M D} {env0 : Fx.Env} : ∀ (ds : List D) (S : Store), (∀ d ∈ ds, ∀ S, ∃ env1, t d env0 = some env1 ∧ ∃ S2, c env1 S = .ok false S2) → ∃ S', compL mkL t c el env0 ds [] S = .ok (.lst []) S'
  | [], S, _ => ⟨S, by unfold compL; exact mkL_ok (by simp)⟩
  | d :: ds, S, h => by
    obtain ⟨env1, h1, S2, h2⟩ := h d (by simp) S
    obtain ⟨S', h3⟩ := comp_none (el := el) ds S2 fun d hd => h d (List.mem_cons_of_mem _ hd)
    refine ⟨S', ?_⟩
    unfold compL
    simp only [h1, bdN, h2, Bool.false_eq_true, if_false, h3]
def last3 : Fx.Env → MS := (seqS (Fx.set 8 (cal (cns (getv 2) (fun _ => pur [])) reprD))
  (seqS (ifS (orB (tst (bin neD (cmp [9] mkL (itf (getv 2)) (toN 9) (notB (tst (cal (cns (getv 9) (fun _ => pur [])) g_law_right))) (getv 9)) (dsp mkL (fun _ => pur [])))) (tst (bin neD (cal (cns (getv 2) (fun _ => pur [])) reprD) (getv 8)))) (Fx.ret (fun _ => pur (.bl false))) pass)
  fin3))
theorem last3_ok {e0 e1 e3 e4 e5 e6 e7 e8 e9 : Option D} {xs : List D} (S : Store) (h1 : ∀ d ∈ xs, gd big60 d = true ∧ dep d ≤ 20) (h2 : sw xs ≤ 200000) :
    ∃ S', last3 [e0, e1, some (.lst xs), e3, e4, e5, e6, e7, e8, e9] S = .ok (.rt (.bl true)) S' := by
  have hg : gd big60 (.lst xs) = true := by rw [gd, gds_mem]; exact fun d hd => (h1 d hd).1
  have hd : dep (.lst xs) ≤ 21 := dep_lst fun d hd => (h1 d hd).2
  have r0 := fun S : Store => repr_ok (S := S) hg (Nat.le_trans h2 (by decide)) (Nat.le_trans hd (by decide))
  have hasc : asc (py (.lst xs)).shown := shown_asc _ hg
  have s1 := set_ok (i := 8) (env := [e0, e1, some (.lst xs), e3, e4, e5, e6, e7, e8, e9]) ((cal1_ok (g := reprD) (getv_ok (i := 2) rfl)).trans (r0 S))
  let env : Fx.Env := [e0, e1, some (.lst xs), e3, e4, e5, e6, e7, some (.str (py (.lst xs)).shown), e9]
  obtain ⟨S2, c1⟩ : ∃ S2, cmp [9] mkL (itf (getv 2)) (toN 9) (notB (tst (cal (cns (getv 9) (fun _ => pur [])) g_law_right))) (getv 9) env S = .ok (.lst []) S2 := by
    obtain ⟨S2, h⟩ := comp_none (t := toN 9) (c := notB (tst (cal (cns (getv 9) (fun _ => pur [])) g_law_right))) (el := getv 9) (env0 := [e0, e1, some (.lst xs), e3, e4, e5, e6, e7, some (.str (py (.lst xs)).shown), none]) xs S fun d hd S => by
      have hok : Ok big60 d := ⟨(h1 d hd).1, by have := wgt_mem hd; have : sw xs = PyData.weightAll (pys xs) := rfl; show wgt d ≤ 1048576; omega, Nat.le_trans (h1 d hd).2 (by decide)⟩
      obtain ⟨S', hr⟩ := right_ok S hok
      exact ⟨_, rfl, S', notB_ok (tst_ok ((cal1_ok (getv_ok rfl)).trans hr))⟩
    exact ⟨S2, h⟩
  have n0 : neD (.lst []) (.lst []) S2 = .ok (.bl false) S2 := by
    rw [neD_eq (n := 0) (m := 0) rfl rfl (by show 1 ≤ 64; decide) (by show 1 ≤ 64; decide)]; rfl
  have cnd : orB (tst (bin neD (cmp [9] mkL (itf (getv 2)) (toN 9) (notB (tst (cal (cns (getv 9) (fun _ => pur [])) g_law_right))) (getv 9)) (dsp mkL (fun _ => pur [])))) (tst (bin neD (cal (cns (getv 2) (fun _ => pur [])) reprD) (getv 8))) env S = .ok false S2 := by
    have a := tst_ok ((bin_okS (g := neD) c1 (nilL _ _)).trans n0)
    have b := tst_ok ((bin_ok (g := neD) ((cal1_ok (g := reprD) (getv_ok (i := 2) (env := env) (S := S2) rfl)).trans (r0 S2)) (getv_ok (i := 8) rfl)).trans (str_ne hasc))
    exact (or_f a).trans b
  obtain ⟨S', e⟩ := fin3_ok env S2
  exact ⟨S', (seq_nx s1).trans ((seq_nx (env' := env) ((ifS_f cnd).trans rfl)).trans e)⟩
/-! ### the items by hand -/
def handL : List D := resL (g_law_by_hand [] [])
theorem hand_run (f : Option OD) : g_law_by_hand [] [f] = .ok (.lst handL) [f, none, none] := by kernel_rfl
abbrev hl (r : Nat) : List D := pickD handL (some (r : Int)) none (some 5)
abbrev more : List D := [.int 0, .str "", .bl true, .lst [.tup (baSc.map frow), .int 7, .tup (baOb.map obD)]]
theorem hchk1 : (gds big60 handL && decide (PyData.depthAll (pys handL) ≤ 20)) = true := by decide +kernel
theorem hchk2 : (decide (sw (hl 0 ++ more) ≤ 6000 ∧ (hl 0 ++ more).length ≤ 40) && decide (sw (hl 1 ++ more) ≤ 6000 ∧ (hl 1 ++ more).length ≤ 40) && decide (sw (hl 2 ++ more) ≤ 6000 ∧ (hl 2 ++ more).length ≤ 40) && decide (sw (hl 3 ++ more) ≤ 6000 ∧ (hl 3 ++ more).length ≤ 40) && decide (sw (hl 4 ++ more) ≤ 6000 ∧ (hl 4 ++ more).length ≤ 40)) = true := by decide +kernel
theorem hchk3 : (gds big60 more && decide (PyData.depthAll (pys more) ≤ 20)) = true := by decide +kernel
theorem hl_mem {r : Nat} {d : D} (h : d ∈ hl r) : d ∈ handL := by
  obtain ⟨i, _, hi⟩ := List.mem_filterMap.mp h
  exact List.mem_of_getElem? hi
theorem items_ok {r : Nat} (hr : r < 5) : (∀ d ∈ hl r ++ more, gd big60 d = true ∧ dep d ≤ 20) ∧ sw (hl r ++ more) ≤ 6000 ∧ (hl r ++ more).length ≤ 40 := by
  have c1 := hchk1
  have c2 := hchk2
  have c3 := hchk3
  simp only [Bool.and_eq_true, decide_eq_true_eq] at c1 c2 c3
  refine ⟨fun d hd => ?_, ?_⟩
  · rcases List.mem_append.mp hd with hd | hd
    · have hd := hl_mem hd
      exact ⟨gds_mem.mp c1.1 d hd, dep_mem hd c1.2⟩
    · exact ⟨gds_mem.mp c3.1 d hd, dep_mem hd c3.2⟩
  · match r, hr with
    | 0, _ => exact c2.1.1.1.1
    | 1, _ => exact c2.1.1.1.2
    | 2, _ => exact c2.1.1.2
    | 3, _ => exact c2.1.2
    | 4, _ => exact c2.2
end K03

end
/-! ## K03z3 -/
section
namespace K03
variable [Fx.Tabl]
open PySem Fx
open L2 (atI ixN Key)
def Its (R : Store) (B n : Nat) : Prop := ∃ xs : List D, (∀ d ∈ xs, gd big60 d = true ∧ dep d ≤ 20) ∧ sw xs ≤ B ∧ xs.length ≤ n ∧ R[2]? = some (some (.lst xs))
theorem Its.mono {R : Store} {B C n m : Nat} (h : Its R B n) (hc : B ≤ C) (hn : n ≤ m) : Its R C m := by
  obtain ⟨xs, h1, h2, h3, h4⟩ := h
  exact ⟨xs, h1, Nat.le_trans h2 hc, Nat.le_trans h3 hn, h4⟩
abbrev envL (ns : List Int) (z4 z5 z6 z7 : Option D) : Fx.Env := [some (.scr ns), some (.obj 0), some (.obj 3), none, z4, z5, z6, z7, none, none]
def eBk : Fx.Env → M D := (dsp mkT (cns (bin ixD (getv 5) (fun _ => pur (.int 0))) (cns (bin ixD (getv 5) (fun _ => pur (.int 1))) (cns (cal (cns (getv 1) (cns (bin ixD (getv 5) (fun _ => pur (.int 2))) (fun _ => pur []))) (g_law_bent fuel_law_bent)) (fun _ => pur [])))))
def bBnd : Fx.Env → MS := (seqS (Fx.set 7 (cal (cns (getv 1) (cns (getv 5) (fun _ => pur []))) (g_law_bent fuel_law_bent)))
  (seqS (drop (met (getv 2) (cns (dsp mkL (cns (getv 7) (cns (cal (cns (getv 1) (cns (getv 7) (fun _ => pur []))) (g_law_bent fuel_law_bent)) (fun _ => pur [])))) (fun _ => pur [])) extD))
  (drop (met (getv 2) (cns eBk (fun _ => pur [])) appD))))
theorem bBnd_ok {ns : List Int} {z4 z6 z7 : Option D} {s x : D} {k : Nat} {S R : Store} {B n : Nat} (hs : In 2000 525 5 s) (hk : k ≤ 1000) (hx : In 2000 648 3 x) (hF : Fd S R) (hI : Its R B n) (hB : B ≤ 200000) (hn : n ≤ 900) :
    ∃ z7' S' R', bBnd (envL ns z4 (some (.tup [s, .int (k : Int), x])) z6 z7) S = .ok (.nx (envL ns z4 (some (.tup [s, .int (k : Int), x])) z6 z7')) S' ∧ Fd S' R' ∧ Its R' (B + 17300) (n + 3) := by
  obtain ⟨xs, hx1, hx2, hx4, hx3⟩ := hI
  let d : D := .tup [s, .int (k : Int), x]
  have hd : In 2000 1200 6 d := book_in hs hk hx
  let e0 : Fx.Env := envL ns z4 (some d) z6 z7
  obtain ⟨o, S1, ho, hF1, h1⟩ := bent_ok 30 d 2000 1200 6 S R hF (by decide) (by decide) hd (by decide) (by decide) (by decide)
  obtain ⟨w, S2, hw, hF2, h2⟩ := bent_ok 30 o 2001 3660 8 S1 R hF1 (by decide) (by decide) (ho.mono (by decide) (by decide) (by decide)) (by decide) (by decide) (by decide)
  have s1 := set_ok (i := 7) (env := e0) ((cal2_ok (g := g_law_bent fuel_law_bent) (getv_ok (i := 1) rfl) (getv_ok (i := 5) rfl)).trans h1)
  let e1 : Fx.Env := envL ns z4 (some d) z6 (some o)
  obtain ⟨hF3, e3⟩ := extd_ok (i := 2) (n := 2) (env := e1) (ys := [o, w]) (e := (dsp mkL (cns (getv 7) (cns (cal (cns (getv 1) (cns (getv 7) (fun _ => pur []))) (g_law_bent fuel_law_bent)) (fun _ => pur []))))) rfl hF1 hx3 (by
    have g7 : getv 7 e1 S1 = .ok o S1 := getv_ok rfl
    have g10 := (cal2_ok (g := g_law_bent fuel_law_bent) (getv_ok (i := 1) (env := e1) (S := S1) rfl) (getv_ok (i := 7) rfl)).trans h2
    rw [dsp]
    simp only [cns, bd, g7, g10, pur]
    exact mkL_ok (sz _ (by show 2 ≤ 300000; decide))) hF2 hx3 (by simp; omega)
  have hR3 : (R.set 2 (some (.lst (xs ++ [o, w]))))[2]? = some (some (.lst (xs ++ [o, w]))) := List.getElem?_set_self (Fx.lt_of_some hx3)
  generalize S2.set (2 + 1) (some (.lst (xs ++ [o, w]))) = S3 at hF3 e3
  generalize R.set 2 (some (.lst (xs ++ [o, w]))) = R3 at hF3 hR3
  obtain ⟨q, S4, hq, hF4, h4⟩ := bent_ok 30 x 2000 648 3 S3 R3 hF3 (by decide) (by decide) hx (by decide) (by decide) (by decide)
  have hq' : In 2001 2004 5 q := hq.mono (by decide) (by decide) (by decide)
  have i := int12 hk
  have hy : In 2001 2560 6 (.tup [s, .int (k : Int), q]) := by
    refine In.tup (P := 5) (fun d hd => ?_) ?_
    · simp only [List.mem_cons, List.not_mem_nil, or_false] at hd
      rcases hd with rfl | rfl | rfl
      · exact ⟨gd_mono (by decide) _ hs.g, hs.p⟩
      · exact ⟨gd_mono (by decide) _ i.g, Nat.le_trans i.p (by decide)⟩
      · exact ⟨hq'.g, hq'.p⟩
    · rw [sw_cons, sw_cons, sw_cons, sw_nil]; have := hs.w; have := i.w; have := hq'.w; omega
  obtain ⟨hF5, e5⟩ := appd_ok (i := 2) (n := 2) (env := e1) (e := eBk) (y := .tup [s, .int (k : Int), q]) rfl hF3 hR3 (by
    have g5 : getv 5 e1 S3 = .ok d S3 := getv_ok rfl
    have a0 : bin ixD (getv 5) (fun _ => pur (.int 0)) e1 S3 = .ok s S3 := (bink g5).trans (ix30 _ _ _ S3)
    have a1 : bin ixD (getv 5) (fun _ => pur (.int 1)) e1 S3 = .ok (.int (k : Int)) S3 := (bink g5).trans (ix31 _ _ _ S3)
    have a2 : bin ixD (getv 5) (fun _ => pur (.int 2)) e1 S3 = .ok x S3 := (bink g5).trans (ix32 _ _ _ S3)
    have a3 := (cal2_ok (g := g_law_bent fuel_law_bent) (getv_ok (i := 1) (env := e1) (S := S3) rfl) a2).trans h4
    rw [eBk, dsp]
    simp only [cns, bd, a0, a1, a3, pur]
    refine mkT_ok ?_
    exact sz _ (by show 3 ≤ 300000; decide)) hF4 hR3 (by simp; omega)
  refine ⟨some o, _, _, (seq_nx s1).trans ((seq_nx e3).trans e5), hF5, xs ++ [o, w] ++ [.tup [s, .int (k : Int), q]], fun y hy' => ?_, ?_, by simp; omega, List.getElem?_set_self (Fx.lt_of_some hR3)⟩
  · have b2 : (2001 : Nat) ≤ big60 := by decide
    have b3 : (2002 : Nat) ≤ big60 := by decide
    simp only [List.mem_append, List.mem_cons, List.not_mem_nil, or_false] at hy'
    rcases hy' with (h | rfl | rfl) | rfl
    · exact hx1 y h
    · exact ⟨gd_mono b2 _ ho.g, Nat.le_trans ho.p (by decide)⟩
    · exact ⟨gd_mono b3 _ hw.g, Nat.le_trans hw.p (by decide)⟩
    · exact ⟨gd_mono b2 _ hy.g, Nat.le_trans hy.p (by decide)⟩
  · rw [sw_app, sw_app, sw_cons, sw_cons, sw_nil, sw_cons, sw_nil]
    have := ho.w; have := hw.w; have := hy.w
    omega
def bO : Fx.Env → MS := (seqS (Fx.set 5 (cal (cns (getv 1) (cns (cal (cns (getv 1) (fun _ => pur [])) g_law_schema) (fun _ => pur []))) g_law_store))
  (seqS (drop (met (getv 2) (cns (getv 5) (fun _ => pur [])) appD))
  (forS (itr1 (cns (fun _ => pur (.int 4)) (fun _ => pur []))) (toN 6) bBnd)))
theorem Ext.its {R R' : Store} {B n : Nat} (h : Ext R R') (hI : Its R B n) : Its R' B n := by
  obtain ⟨xs, h1, h2, h3, h4⟩ := hI
  exact ⟨xs, h1, h2, h3, (h.2 2 (Fx.lt_of_some h4)).trans h4⟩
theorem cal2_okS {f1 f2 : Fx.Env → M D} {g : List D → M D} {env : Fx.Env} {S S1 : Store} {a b : D} (h1 : f1 env S = .ok a S) (h2 : f2 env S = .ok b S1) : cal (cns f1 (cns f2 (fun _ => pur []))) g env S = g [a, b] S1 := by
  simp only [cal, cns, bd, h1, h2, pur]
theorem bO_ok {ns : List Int} {z4 z5 z6 z7 : Option D} {S R : Store} {B n : Nat} (hF : Fd S R) (hI : Its R B n) (hB : B ≤ 100000) (hn : n ≤ 500) :
    ∃ z5' z6' z7' S' R', bO (envL ns z4 z5 z6 z7) S = .ok (.nx (envL ns z4 z5' z6' z7')) S' ∧ Fd S' R' ∧ Its R' (B + 70500) (n + 13) := by
  obtain ⟨fs, S1, R1, f1, f2, f3, hF1, hE1, h1⟩ := schema_ok hF
  obtain ⟨k, x, S2, R2, hk, hx, hF2, hE2, h2⟩ := store_ok f3 f1 f2 hF1
  let sch : D := .tup (fs.map frow)
  have hs : In 2000 525 5 sch := scheme_in f3 f2
  let d : D := .tup [sch, .int (k : Int), x]
  have hd : In 2000 1200 6 d := book_in hs (by omega) hx
  let e0 : Fx.Env := envL ns z4 z5 z6 z7
  have s1 := set_ok (i := 5) (env := e0) ((cal2_okS (g := g_law_store) (getv_ok (i := 1) rfl) ((cal1_ok (getv_ok (i := 1) rfl)).trans h1)).trans h2)
  have hI2 : Its R2 B n := hE2.its (hE1.its hI)
  obtain ⟨xs, hx1, hx2, hx4, hx3⟩ := hI2
  let e1 : Fx.Env := envL ns z4 (some d) z6 z7
  obtain ⟨hF3, e3⟩ := appd_ok (i := 2) (n := 2) (env := e1) (e := getv 5) (y := d) rfl hF2 hx3 (getv_ok rfl) hF2 hx3 (by omega)
  let S3 : Store := S2.set (2 + 1) (some (.lst (xs ++ [d])))
  let R3 : Store := R2.set 2 (some (.lst (xs ++ [d])))
  have hI3 : Its R3 (B + 1201) (n + 1) := by
    refine ⟨xs ++ [d], fun y hy => ?_, ?_, by simp; omega, List.getElem?_set_self (Fx.lt_of_some hx3)⟩
    · rcases List.mem_append.mp hy with h | h
      · exact hx1 y h
      · rw [List.mem_singleton.mp h]; exact ⟨gd_mono (by decide) _ hd.g, Nat.le_trans hd.p (by decide)⟩
    · rw [sw_app, sw_cons, sw_nil]; have := hd.w; omega
  have i4 : itr1 (cns (fun _ => pur (.int 4)) (fun _ => pur [])) e1 S3 = .ok (rng 0 4) S3 := itr1_ok rfl (inR_of (by decide) (by decide))
  obtain ⟨env5, S5, e5, z6', z7', R5, rfl, hF5, hI5⟩ := loop_st (t := toN 6) (b := bBnd) (fun i env S => ∃ z6 z7 R, env = envL ns z4 (some d) z6 z7 ∧ Fd S R ∧ Its R (B + 1201 + i * 17300) (n + 1 + i * 3)) 4 (fun _ => True) (rng 0 4) 0 e1 S3 rfl (fun _ _ => trivial)
    ⟨_, _, R3, rfl, hF3, hI3.mono (by omega) (by omega)⟩ (by
      rintro i hi d' _ env S ⟨z6, z7, R, rfl, hF, hI⟩
      refine ⟨_, rfl, ?_⟩
      obtain ⟨z7', S', R', k1, k2, k3⟩ := bBnd_ok (ns := ns) (z4 := z4) (z6 := some d') (z7 := z7) (k := k) hs (by omega) hx hF hI (by omega) (by omega)
      exact ⟨_, S', k1, _, _, R', rfl, k2, k3.mono (by omega) (by omega)⟩)
  exact ⟨_, _, _, S5, R5, (seq_nx s1).trans ((seq_nx e3).trans ((for_ok i4).trans e5)), hF5, hI5.mono (by omega) (by omega)⟩
def eItems : Fx.Env → M D := (bin (addD mkN) (stp (fun _ => g_law_by_hand []) (fun env => bd ((cal (cns (getv 1) (cns (fun _ => pur (.int 5)) (fun _ => pur []))) g_law_draw) env) intOf) (fun _ => pur none) (fun env => bd ((fun _ => pur (.int 5)) env) intOf)) (dsp mkL (cns (fun _ => pur (.int 0)) (cns (fun _ => pur (.str "")) (cns (fun _ => pur (.bl true)) (cns (cmp [3] mkL (itf (fun _ => g_law_base [])) (toN 3) (fun _ => pur true) (getv 3)) (fun _ => pur [])))))))
theorem law_eq : b_law = seqS (Fx.set 1 (cal (cns (getv 0) (fun _ => pur [])) g_law_feed)) (seqS (Fx.set 2 eItems) (seqS (forS (itr1 (cns (fun _ => pur (.int 2)) (fun _ => pur []))) (toN 4) bO) (frzV 2 last3))) := rfl
theorem law_true {ns : List Int} (h : ns.length ≤ 63) : ∃ S', g_law [.scr ns] [] = .ok (.bl true) S' := by
  obtain ⟨S0, hF0, hf⟩ := feed_ok h
  obtain ⟨f, rfl⟩ : ∃ f, S0 = [f] := by obtain ⟨c, a, l, k, _, rfl⟩ := hF0; exact ⟨_, rfl⟩
  have s1 := set_ok (i := 1) (env := ent 10 [.scr ns]) ((cal1_ok (g := g_law_feed) (getv_ok (i := 0) rfl)).trans hf)
  let e1 : Fx.Env := [some (.scr ns), some (.obj 0), none, none, none, none, none, none, none, none]
  have hF2 : Fd [f, none, none] [none, none] := by
    obtain ⟨c, a, l, k, hc, e⟩ := hF0
    exact ⟨c, a, l, k, hc, by cases e; rfl⟩
  obtain ⟨r, S3, hr, hF3, hd⟩ := drawn (i := 1) (env := e1) (f := fun _ => pur (.int 5)) (m := 5) rfl rfl (by decide) (by decide) hF2
  have w1 := hand_run f
  have p1 : stp (fun _ => g_law_by_hand []) (fun env => bd ((cal (cns (getv 1) (cns (fun _ => pur (.int 5)) (fun _ => pur []))) g_law_draw) env) intOf) (fun _ => pur none) (fun env => bd ((fun _ => pur (.int 5)) env) intOf) e1 [f] = .ok (.lst (hl r)) S3 := by
    simp only [stp, bd, w1, hd, intOf, pur, stpD, seqL, seqM]
    rw [if_pos (by decide)]; rfl
  have p2 : dsp mkL (cns (fun _ => pur (.int 0)) (cns (fun _ => pur (.str "")) (cns (fun _ => pur (.bl true)) (cns (cmp [3] mkL (itf (fun _ => g_law_base [])) (toN 3) (fun _ => pur true) (getv 3)) (fun _ => pur []))))) e1 S3 = .ok (.lst more) S3 := by
    have c : cmp [3] mkL (itf (fun _ => g_law_base [])) (toN 3) (fun _ => pur true) (getv 3) e1 S3 = .ok (.lst [.tup (baSc.map frow), .int 7, .tup (baOb.map obD)]) S3 := by
      have b : itf (fun _ => g_law_base []) e1 S3 = .ok [.tup (baSc.map frow), .int 7, .tup (baOb.map obD)] S3 := by
        simp only [itf, bd, base_run]; rfl
      simp only [cmp, bd, b]; rfl
    rw [dsp]
    simp only [cns, bd, c, pur]
    exact mkL_ok (sz _ (by show 4 ≤ 300000; decide))
  obtain ⟨k1, k2, k3⟩ := items_ok hr
  have hlen : (hl r ++ more).length ≤ sizeLine := sz _ (by omega)
  have hl3 : S3.length = 3 := by rw [hF3.len]; rfl
  have s2 := set_ok (i := 2) (env := e1) (S := [f]) (d := .obj 3) (S' := S3 ++ [some (.lst (hl r ++ more))]) ((bin_okS (g := addD mkN) p1 p2).trans (by
    simp only [addD, catL, bd, seqM, pur, mkN, if_pos hlen, mkO, hl3]))
  have hF4 := hF3.app (some (.lst (hl r ++ more)))
  have hI4 : Its ([none, none] ++ [some (.lst (hl r ++ more))]) 6000 40 := ⟨_, k1, k2, k3, rfl⟩
  let e2 : Fx.Env := envL ns none none none none
  have i3 : itr1 (cns (fun _ => pur (.int 2)) (fun _ => pur [])) e2 (S3 ++ [some (.lst (hl r ++ more))]) = .ok (rng 0 2) (S3 ++ [some (.lst (hl r ++ more))]) := itr1_ok rfl (inR_of (by decide) (by decide))
  obtain ⟨env5, S5, e5, z4, z5, z6, z7, R5, rfl, hF5, hI5⟩ := loop_st (t := toN 4) (b := bO) (fun i env S => ∃ z4 z5 z6 z7 R, env = envL ns z4 z5 z6 z7 ∧ Fd S R ∧ Its R (6000 + i * 70500) (40 + i * 13)) 2 (fun _ => True) (rng 0 2) 0 e2 _ rfl (fun _ _ => trivial)
    ⟨_, _, _, _, _, rfl, hF4, hI4.mono (by omega) (by omega)⟩ (by
      rintro i hi d _ env S ⟨z4, z5, z6, z7, R, rfl, hF, hI⟩
      refine ⟨_, rfl, ?_⟩
      obtain ⟨z5', z6', z7', S', R', q1, q2, q3⟩ := bO_ok (ns := ns) (z4 := some d) (z5 := z5) (z6 := z6) (z7 := z7) hF hI (by omega) (by omega)
      exact ⟨_, S', q1, _, _, _, _, R', rfl, q2, q3.mono (by omega) (by omega)⟩)
  obtain ⟨xs, x1, x2, _, x3⟩ := hI5
  have hS5 : S5[3]? = some (some (.lst xs)) := by rw [hF5.get]; exact x3
  have fr : frzV 2 last3 (envL ns z4 z5 z6 z7) S5 = last3 [some (.scr ns), some (.obj 0), some (.lst xs), none, z4, z5, z6, z7, none, none] (S5.set 3 none) := by
    simp only [frzV, envL, List.getElem?_cons_succ, List.getElem?_cons_zero, hS5]; rfl
  obtain ⟨S6, l3⟩ := last3_ok (e0 := some (.scr ns)) (e1 := some (.obj 0)) (e3 := none) (e4 := z4) (e5 := z5) (e6 := z6) (e7 := z7) (e8 := none) (e9 := none) (S5.set 3 none) x1 (Nat.le_trans x2 (by decide))
  refine ⟨S6, body_rt (b := b_law) rfl ?_⟩
  rw [law_eq]
  exact (seq_nx s1).trans ((seq_nx s2).trans ((seq_nx ((for_ok i3).trans e5)).trans (fr.trans l3)))
end K03

end
namespace K03
open PySem PySem.Spec PyProof.Rows L2 Fx
def i_InvalidPaper : Stmt := match top 5 with
  | .ClassDef _ _ _ (st :: _) _ _ _ _ _ _ _ => st
  | st => st
section
variable [tb : Fx.Tabl]
theorem law_of {P : Program} {w : World} {K : PySem.W.Frag} {mg : Str → Option Value} {base : Heap} {k : Nat} {x : Str} {st : Stmt} {ps : List Str} {g : List D → M D} {fa : Addr} {fd : FuncData} {oc : Value} {od : Option Addr} {sl : Array (Option Value)}
    (G : GAt true P w K mg base k x st ps g) (hfa : mg x = some (.ref fa)) (l : K.lookup fa = some ⟨oc, od, .func fd, sl⟩) : FnG true P w K mg base k fa fd ps g := by
  obtain ⟨a, fd', h1, h2, h3, h4⟩ := G.ex
  rw [h1] at hfa
  cases hfa
  obtain ⟨_, _, kV, doc, pm, an, cd, ct, osl, rfl, lk, hcd⟩ := h2.ex
  rw [l] at lk
  cases lk
  exact h4
end
def tabFree (K : PySem.W.Frag) (x : Str) : Bool := match PySem.W.tabIn K x with
  | some (_, t) => (K.lookup t).isNone
  | none => false
theorem tabFree_ok {K : PySem.W.Frag} {x : Str} (h : tabFree K x = true) : ∃ c t, PySem.W.tabIn K x = some (c, t) ∧ K.lookup t = none := by
  unfold tabFree at h
  split at h
  · rename_i c t e
    exact ⟨c, t, e, Option.isNone_iff_eq_none.mp h⟩
  · cases h
theorem tab_code {K : PySem.W.Frag} {x : Str} {c t : Addr} {h : Heap} {mg : Str → Option Value} (X : K.In h) (G : h.Ns mainGlobals mg) (ht : PySem.W.tabIn K x = some (c, t)) : CodeAt K mg x (.ref c) := by
  unfold PySem.W.tabIn at ht
  split at ht
  · rename_i f e1
    split at ht
    · rename_i oc od fd sl e2
      split at ht
      · rename_i c' e3
        split at ht
        · split at ht
          · cases ht
            exact ⟨f, _, fd, PySem.W.mg_of X G e1, e2, rfl, e3⟩
          · cases ht
        · cases ht
      · cases ht
    · cases ht
  · cases ht
theorem all_mk {P : Program} {w : World} {K : PySem.W.Frag} {h : Heap} {mg : Str → Option Value} {fa : Addr} {NM : List Str} (HT : ∀ x c t, PySem.W.tabIn K x = some (c, t) → x ∈ NM → PySem.W.CodeHd h c t ∧ h.get? t = some { cls := .none, data := .fields #[] }) (X : K.In h) (G : h.Ns mainGlobals mg) (hfa : mg "law" = some (.ref fa))
    {f0 : Addr} {oc0 kV0 dc0 pm0 cd0 ct0 : Value} {od0 an0 : Option Addr} {sl0 : Array (Option Value)}
    {f1 : Addr} {oc1 kV1 dc1 pm1 cd1 ct1 : Value} {od1 an1 : Option Addr} {sl1 : Array (Option Value)}
    {f2 : Addr} {oc2 kV2 dc2 pm2 cd2 ct2 : Value} {od2 an2 : Option Addr} {sl2 : Array (Option Value)}
    {f3 : Addr} {oc3 kV3 dc3 pm3 cd3 ct3 : Value} {od3 an3 : Option Addr} {sl3 : Array (Option Value)}
    {f4 : Addr} {oc4 kV4 dc4 pm4 cd4 ct4 : Value} {od4 an4 : Option Addr} {sl4 : Array (Option Value)}
    {f5 : Addr} {oc5 kV5 dc5 pm5 cd5 ct5 : Value} {od5 an5 : Option Addr} {sl5 : Array (Option Value)}
    {f6 : Addr} {oc6 kV6 dc6 pm6 cd6 ct6 : Value} {od6 an6 : Option Addr} {sl6 : Array (Option Value)}
    {f7 : Addr} {oc7 kV7 dc7 pm7 cd7 ct7 : Value} {od7 an7 : Option Addr} {sl7 : Array (Option Value)}
    {f8 : Addr} {oc8 kV8 dc8 pm8 cd8 ct8 : Value} {od8 an8 : Option Addr} {sl8 : Array (Option Value)}
    {f9 : Addr} {oc9 kV9 dc9 pm9 cd9 ct9 : Value} {od9 an9 : Option Addr} {sl9 : Array (Option Value)}
    {f10 : Addr} {oc10 kV10 dc10 pm10 cd10 ct10 : Value} {od10 an10 : Option Addr} {sl10 : Array (Option Value)}
    {f11 : Addr} {oc11 kV11 dc11 pm11 cd11 ct11 : Value} {od11 an11 : Option Addr} {sl11 : Array (Option Value)}
    {f12 : Addr} {oc12 kV12 dc12 pm12 cd12 ct12 : Value} {od12 an12 : Option Addr} {sl12 : Array (Option Value)}
    {f13 : Addr} {oc13 kV13 dc13 pm13 cd13 ct13 : Value} {od13 an13 : Option Addr} {sl13 : Array (Option Value)}
    {f14 : Addr} {oc14 kV14 dc14 pm14 cd14 ct14 : Value} {od14 an14 : Option Addr} {sl14 : Array (Option Value)}
    {f15 : Addr} {oc15 kV15 dc15 pm15 cd15 ct15 : Value} {od15 an15 : Option Addr} {sl15 : Array (Option Value)}
    {f16 : Addr} {oc16 kV16 dc16 pm16 cd16 ct16 : Value} {od16 an16 : Option Addr} {sl16 : Array (Option Value)}
    {f17 : Addr} {oc17 kV17 dc17 pm17 cd17 ct17 : Value} {od17 an17 : Option Addr} {sl17 : Array (Option Value)}
    {f18 : Addr} {oc18 kV18 dc18 pm18 cd18 ct18 : Value} {od18 an18 : Option Addr} {sl18 : Array (Option Value)}
    {f19 : Addr} {oc19 kV19 dc19 pm19 cd19 ct19 : Value} {od19 an19 : Option Addr} {sl19 : Array (Option Value)}
    {f20 : Addr} {oc20 kV20 dc20 pm20 cd20 ct20 : Value} {od20 an20 : Option Addr} {sl20 : Array (Option Value)}
    {f21 : Addr} {oc21 kV21 dc21 pm21 cd21 ct21 : Value} {od21 an21 : Option Addr} {sl21 : Array (Option Value)}
    {f22 : Addr} {oc22 kV22 dc22 pm22 cd22 ct22 : Value} {od22 an22 : Option Addr} {sl22 : Array (Option Value)}
    {f23 : Addr} {oc23 kV23 dc23 pm23 cd23 ct23 : Value} {od23 an23 : Option Addr} {sl23 : Array (Option Value)}
    {f24 : Addr} {oc24 kV24 dc24 pm24 cd24 ct24 : Value} {od24 an24 : Option Addr} {sl24 : Array (Option Value)}
    {f25 : Addr} {oc25 kV25 dc25 pm25 cd25 ct25 : Value} {od25 an25 : Option Addr} {sl25 : Array (Option Value)}
    {f26 : Addr} {oc26 kV26 dc26 pm26 cd26 ct26 : Value} {od26 an26 : Option Addr} {sl26 : Array (Option Value)}
    {f27 : Addr} {oc27 kV27 dc27 pm27 cd27 ct27 : Value} {od27 an27 : Option Addr} {sl27 : Array (Option Value)}
    {f28 : Addr} {oc28 kV28 dc28 pm28 cd28 ct28 : Value} {od28 an28 : Option Addr} {sl28 : Array (Option Value)}
    {f29 : Addr} {oc29 kV29 dc29 pm29 cd29 ct29 : Value} {od29 an29 : Option Addr} {sl29 : Array (Option Value)}
    {f30 : Addr} {oc30 kV30 dc30 pm30 cd30 ct30 : Value} {od30 an30 : Option Addr} {sl30 : Array (Option Value)}
    {f31 : Addr} {oc31 kV31 dc31 pm31 cd31 ct31 : Value} {od31 an31 : Option Addr} {sl31 : Array (Option Value)}
    {f32 : Addr} {oc32 kV32 dc32 pm32 cd32 ct32 : Value} {od32 an32 : Option Addr} {sl32 : Array (Option Value)}
    {f33 : Addr} {oc33 kV33 dc33 pm33 cd33 ct33 : Value} {od33 an33 : Option Addr} {sl33 : Array (Option Value)}
    {f34 : Addr} {oc34 kV34 dc34 pm34 cd34 ct34 : Value} {od34 an34 : Option Addr} {sl34 : Array (Option Value)}
    {f35 : Addr} {oc35 kV35 dc35 pm35 cd35 ct35 : Value} {od35 an35 : Option Addr} {sl35 : Array (Option Value)}
    {f36 : Addr} {oc36 kV36 dc36 pm36 cd36 ct36 : Value} {od36 an36 : Option Addr} {sl36 : Array (Option Value)}
    {f37 : Addr} {oc37 kV37 dc37 pm37 cd37 ct37 : Value} {od37 an37 : Option Addr} {sl37 : Array (Option Value)}
    {f38 : Addr} {oc38 kV38 dc38 pm38 cd38 ct38 : Value} {od38 an38 : Option Addr} {sl38 : Array (Option Value)}
    {f39 : Addr} {oc39 kV39 dc39 pm39 cd39 ct39 : Value} {od39 an39 : Option Addr} {sl39 : Array (Option Value)}
    {f40 : Addr} {oc40 kV40 dc40 pm40 cd40 ct40 : Value} {od40 an40 : Option Addr} {sl40 : Array (Option Value)}
    {f41 : Addr} {oc41 kV41 dc41 pm41 cd41 ct41 : Value} {od41 an41 : Option Addr} {sl41 : Array (Option Value)}
    {f42 : Addr} {oc42 kV42 dc42 pm42 cd42 ct42 : Value} {od42 an42 : Option Addr} {sl42 : Array (Option Value)}
    {f43 : Addr} {oc43 kV43 dc43 pm43 cd43 ct43 : Value} {od43 an43 : Option Addr} {sl43 : Array (Option Value)}
    {tk_LETTERS : Tok}
    {tk_LONGEST : Tok}
    {CInvalidPaper : Addr}
    {CLateError : Addr}
    {CInvalidText : Addr}
    {CPaperError : Addr}
    {CStoreError : Addr}
    {CTextError : Addr}
    {CUnfitExpression : Addr}
    {CUnknownObject : Addr}
    {CInvalidStep : Addr}
    {CGoneCell : Addr}
    {CNothingToUndo : Addr}
    {CInvalidPace : Addr}
    {CInvalidCommand : Addr}
    {nmInvalidPaper qnInvalidPaper : Str} {NInvalidPaper : Addr} {bsInvalidPaper subInvalidPaper : List Value} {snInvalidPaper : List Str} {abInvalidPaper : Bool} {colInvalidPaper : Option Bool} {ddInvalidPaper : Option Addr} {k0InvalidPaper k1InvalidPaper k2InvalidPaper k3InvalidPaper k5InvalidPaper : Option Value} {f1InvalidPaper : Addr} {ocInvalidPaper kVInvalidPaper dcInvalidPaper pmInvalidPaper cdInvalidPaper ctInvalidPaper : Value} {odInvalidPaper anInvalidPaper : Option Addr} {slInvalidPaper : Array (Option Value)}
    (a0 : PySem.W.nsIn K mainGlobals "_law_feed" = some (some (.ref f0)))
    (l0 : K.lookup f0 = some ⟨oc0, od0, .func (PySem.W.fnOf "_law_feed" "_law_feed" (defArgs s_law_feed) (defBody s_law_feed) (defScope s_law_feed) .none kV0 dc0 pm0 an0 cd0 ct0), sl0⟩)
    (c0 : PySem.W.codeIn K cd0 "_law_feed" = true)
    (k0 : PySem.W.keepIn K (.ref f0) = true)
    (a1 : PySem.W.nsIn K mainGlobals "_law_draw" = some (some (.ref f1)))
    (l1 : K.lookup f1 = some ⟨oc1, od1, .func (PySem.W.fnOf "_law_draw" "_law_draw" (defArgs s_law_draw) (defBody s_law_draw) (defScope s_law_draw) .none kV1 dc1 pm1 an1 cd1 ct1), sl1⟩)
    (c1 : PySem.W.codeIn K cd1 "_law_draw" = true)
    (k1 : PySem.W.keepIn K (.ref f1) = true)
    (a2 : PySem.W.nsIn K mainGlobals "_law_value" = some (some (.ref f2)))
    (l2 : K.lookup f2 = some ⟨oc2, od2, .func (PySem.W.fnOf "_law_value" "_law_value" (defArgs s_law_value) (defBody s_law_value) (defScope s_law_value) .none kV2 dc2 pm2 an2 cd2 ct2), sl2⟩)
    (c2 : PySem.W.codeIn K cd2 "_law_value" = true)
    (k2 : PySem.W.keepIn K (.ref f2) = true)
    (a3 : PySem.W.nsIn K mainGlobals "_law_store" = some (some (.ref f3)))
    (l3 : K.lookup f3 = some ⟨oc3, od3, .func (PySem.W.fnOf "_law_store" "_law_store" (defArgs s_law_store) (defBody s_law_store) (defScope s_law_store) .none kV3 dc3 pm3 an3 cd3 ct3), sl3⟩)
    (c3 : PySem.W.codeIn K cd3 "_law_store" = true)
    (k3 : PySem.W.keepIn K (.ref f3) = true)
    (a4 : PySem.W.nsIn K mainGlobals "_law_base" = some (some (.ref f4)))
    (l4 : K.lookup f4 = some ⟨oc4, od4, .func (PySem.W.fnOf "_law_base" "_law_base" (defArgs s_law_base) (defBody s_law_base) (defScope s_law_base) .none kV4 dc4 pm4 an4 cd4 ct4), sl4⟩)
    (c4 : PySem.W.codeIn K cd4 "_law_base" = true)
    (k4 : PySem.W.keepIn K (.ref f4) = true)
    (a5 : PySem.W.nsIn K mainGlobals "_law_by_hand" = some (some (.ref f5)))
    (l5 : K.lookup f5 = some ⟨oc5, od5, .func (PySem.W.fnOf "_law_by_hand" "_law_by_hand" (defArgs s_law_by_hand) (defBody s_law_by_hand) (defScope s_law_by_hand) .none kV5 dc5 pm5 an5 cd5 ct5), sl5⟩)
    (c5 : PySem.W.codeIn K cd5 "_law_by_hand" = true)
    (k5 : PySem.W.keepIn K (.ref f5) = true)
    (a6 : PySem.W.nsIn K mainGlobals "_law_ordered" = some (some (.ref f6)))
    (l6 : K.lookup f6 = some ⟨oc6, od6, .func (PySem.W.fnOf "_law_ordered" "_law_ordered" (defArgs s_law_ordered) (defBody s_law_ordered) (defScope s_law_ordered) .none kV6 dc6 pm6 an6 cd6 ct6), sl6⟩)
    (c6 : PySem.W.codeIn K cd6 "_law_ordered" = true)
    (k6 : PySem.W.keepIn K (.ref f6) = true)
    (a7 : PySem.W.nsIn K mainGlobals "_law_schema" = some (some (.ref f7)))
    (l7 : K.lookup f7 = some ⟨oc7, od7, .func (PySem.W.fnOf "_law_schema" "_law_schema" (defArgs s_law_schema) (defBody s_law_schema) (defScope s_law_schema) .none kV7 dc7 pm7 an7 cd7 ct7), sl7⟩)
    (c7 : PySem.W.codeIn K cd7 "_law_schema" = true)
    (k7 : PySem.W.keepIn K (.ref f7) = true)
    (a8 : PySem.W.nsIn K mainGlobals "_law_odd" = some (some (.ref f8)))
    (l8 : K.lookup f8 = some ⟨oc8, od8, .func (PySem.W.fnOf "_law_odd" "_law_odd" (defArgs s_law_odd) (defBody s_law_odd) (defScope s_law_odd) .none kV8 dc8 pm8 an8 cd8 ct8), sl8⟩)
    (c8 : PySem.W.codeIn K cd8 "_law_odd" = true)
    (k8 : PySem.W.keepIn K (.ref f8) = true)
    (a9 : PySem.W.nsIn K mainGlobals "_law_bent" = some (some (.ref f9)))
    (l9 : K.lookup f9 = some ⟨oc9, od9, .func (PySem.W.fnOf "_law_bent" "_law_bent" (defArgs s_law_bent) (defBody s_law_bent) (defScope s_law_bent) .none kV9 dc9 pm9 an9 cd9 ct9), sl9⟩)
    (c9 : PySem.W.codeIn K cd9 "_law_bent" = true)
    (k9 : PySem.W.keepIn K (.ref f9) = true)
    (a10 : PySem.W.nsIn K mainGlobals "form_of" = some (some (.ref f10)))
    (l10 : K.lookup f10 = some ⟨oc10, od10, .func (PySem.W.fnOf "form_of" "form_of" (defArgs s_form_of) (defBody s_form_of) (defScope s_form_of) .none kV10 dc10 pm10 an10 cd10 ct10), sl10⟩)
    (c10 : PySem.W.codeIn K cd10 "form_of" = true)
    (k10 : PySem.W.keepIn K (.ref f10) = true)
    (a11 : PySem.W.nsIn K mainGlobals "is_link" = some (some (.ref f11)))
    (l11 : K.lookup f11 = some ⟨oc11, od11, .func (PySem.W.fnOf "is_link" "is_link" (defArgs s_is_link) (defBody s_is_link) (defScope s_is_link) .none kV11 dc11 pm11 an11 cd11 ct11), sl11⟩)
    (c11 : PySem.W.codeIn K cd11 "is_link" = true)
    (k11 : PySem.W.keepIn K (.ref f11) = true)
    (a12 : PySem.W.nsIn K mainGlobals "check_links" = some (some (.ref f12)))
    (l12 : K.lookup f12 = some ⟨oc12, od12, .func (PySem.W.fnOf "check_links" "check_links" (defArgs s_check_links) (defBody s_check_links) (defScope s_check_links) .none kV12 dc12 pm12 an12 cd12 ct12), sl12⟩)
    (c12 : PySem.W.codeIn K cd12 "check_links" = true)
    (k12 : PySem.W.keepIn K (.ref f12) = true)
    (a13 : PySem.W.nsIn K mainGlobals "ascends" = some (some (.ref f13)))
    (l13 : K.lookup f13 = some ⟨oc13, od13, .func (PySem.W.fnOf "ascends" "ascends" (defArgs s_ascends) (defBody s_ascends) (defScope s_ascends) .none kV13 dc13 pm13 an13 cd13 ct13), sl13⟩)
    (c13 : PySem.W.codeIn K cd13 "ascends" = true)
    (k13 : PySem.W.keepIn K (.ref f13) = true)
    (a14 : PySem.W.nsIn K mainGlobals "is_name" = some (some (.ref f14)))
    (l14 : K.lookup f14 = some ⟨oc14, od14, .func (PySem.W.fnOf "is_name" "is_name" (defArgs s_is_name) (defBody s_is_name) (defScope s_is_name) .none kV14 dc14 pm14 an14 cd14 ct14), sl14⟩)
    (c14 : PySem.W.codeIn K cd14 "is_name" = true)
    (k14 : PySem.W.keepIn K (.ref f14) = true)
    (a15 : PySem.W.nsIn K mainGlobals "are_named" = some (some (.ref f15)))
    (l15 : K.lookup f15 = some ⟨oc15, od15, .func (PySem.W.fnOf "are_named" "are_named" (defArgs s_are_named) (defBody s_are_named) (defScope s_are_named) .none kV15 dc15 pm15 an15 cd15 ct15), sl15⟩)
    (c15 : PySem.W.codeIn K cd15 "are_named" = true)
    (k15 : PySem.W.keepIn K (.ref f15) = true)
    (a16 : PySem.W.nsIn K mainGlobals "links_lead" = some (some (.ref f16)))
    (l16 : K.lookup f16 = some ⟨oc16, od16, .func (PySem.W.fnOf "links_lead" "links_lead" (defArgs s_links_lead) (defBody s_links_lead) (defScope s_links_lead) .none kV16 dc16 pm16 an16 cd16 ct16), sl16⟩)
    (c16 : PySem.W.codeIn K cd16 "links_lead" = true)
    (k16 : PySem.W.keepIn K (.ref f16) = true)
    (a17 : PySem.W.nsIn K mainGlobals "is_integer" = some (some (.ref f17)))
    (l17 : K.lookup f17 = some ⟨oc17, od17, .func (PySem.W.fnOf "is_integer" "is_integer" (defArgs s_is_integer) (defBody s_is_integer) (defScope s_is_integer) .none kV17 dc17 pm17 an17 cd17 ct17), sl17⟩)
    (c17 : PySem.W.codeIn K cd17 "is_integer" = true)
    (k17 : PySem.W.keepIn K (.ref f17) = true)
    (a18 : PySem.W.nsIn K mainGlobals "is_range" = some (some (.ref f18)))
    (l18 : K.lookup f18 = some ⟨oc18, od18, .func (PySem.W.fnOf "is_range" "is_range" (defArgs s_is_range) (defBody s_is_range) (defScope s_is_range) .none kV18 dc18 pm18 an18 cd18 ct18), sl18⟩)
    (c18 : PySem.W.codeIn K cd18 "is_range" = true)
    (k18 : PySem.W.keepIn K (.ref f18) = true)
    (a19 : PySem.W.nsIn K mainGlobals "is_kind" = some (some (.ref f19)))
    (l19 : K.lookup f19 = some ⟨oc19, od19, .func (PySem.W.fnOf "is_kind" "is_kind" (defArgs s_is_kind) (defBody s_is_kind) (defScope s_is_kind) .none kV19 dc19 pm19 an19 cd19 ct19), sl19⟩)
    (c19 : PySem.W.codeIn K cd19 "is_kind" = true)
    (k19 : PySem.W.keepIn K (.ref f19) = true)
    (a20 : PySem.W.nsIn K mainGlobals "is_form" = some (some (.ref f20)))
    (l20 : K.lookup f20 = some ⟨oc20, od20, .func (PySem.W.fnOf "is_form" "is_form" (defArgs s_is_form) (defBody s_is_form) (defScope s_is_form) .none kV20 dc20 pm20 an20 cd20 ct20), sl20⟩)
    (c20 : PySem.W.codeIn K cd20 "is_form" = true)
    (k20 : PySem.W.keepIn K (.ref f20) = true)
    (a21 : PySem.W.nsIn K mainGlobals "is_schema" = some (some (.ref f21)))
    (l21 : K.lookup f21 = some ⟨oc21, od21, .func (PySem.W.fnOf "is_schema" "is_schema" (defArgs s_is_schema) (defBody s_is_schema) (defScope s_is_schema) .none kV21 dc21 pm21 an21 cd21 ct21), sl21⟩)
    (c21 : PySem.W.codeIn K cd21 "is_schema" = true)
    (k21 : PySem.W.keepIn K (.ref f21) = true)
    (a22 : PySem.W.nsIn K mainGlobals "is_number" = some (some (.ref f22)))
    (l22 : K.lookup f22 = some ⟨oc22, od22, .func (PySem.W.fnOf "is_number" "is_number" (defArgs s_is_number) (defBody s_is_number) (defScope s_is_number) .none kV22 dc22 pm22 an22 cd22 ct22), sl22⟩)
    (c22 : PySem.W.codeIn K cd22 "is_number" = true)
    (k22 : PySem.W.keepIn K (.ref f22) = true)
    (a23 : PySem.W.nsIn K mainGlobals "is_row" = some (some (.ref f23)))
    (l23 : K.lookup f23 = some ⟨oc23, od23, .func (PySem.W.fnOf "is_row" "is_row" (defArgs s_is_row) (defBody s_is_row) (defScope s_is_row) .none kV23 dc23 pm23 an23 cd23 ct23), sl23⟩)
    (c23 : PySem.W.codeIn K cd23 "is_row" = true)
    (k23 : PySem.W.keepIn K (.ref f23) = true)
    (a24 : PySem.W.nsIn K mainGlobals "has_shape" = some (some (.ref f24)))
    (l24 : K.lookup f24 = some ⟨oc24, od24, .func (PySem.W.fnOf "has_shape" "has_shape" (defArgs s_has_shape) (defBody s_has_shape) (defScope s_has_shape) .none kV24 dc24 pm24 an24 cd24 ct24), sl24⟩)
    (c24 : PySem.W.codeIn K cd24 "has_shape" = true)
    (k24 : PySem.W.keepIn K (.ref f24) = true)
    (a25 : PySem.W.nsIn K mainGlobals "in_range" = some (some (.ref f25)))
    (l25 : K.lookup f25 = some ⟨oc25, od25, .func (PySem.W.fnOf "in_range" "in_range" (defArgs s_in_range) (defBody s_in_range) (defScope s_in_range) .none kV25 dc25 pm25 an25 cd25 ct25), sl25⟩)
    (c25 : PySem.W.codeIn K cd25 "in_range" = true)
    (k25 : PySem.W.keepIn K (.ref f25) = true)
    (a26 : PySem.W.nsIn K mainGlobals "could_suit" = some (some (.ref f26)))
    (l26 : K.lookup f26 = some ⟨oc26, od26, .func (PySem.W.fnOf "could_suit" "could_suit" (defArgs s_could_suit) (defBody s_could_suit) (defScope s_could_suit) .none kV26 dc26 pm26 an26 cd26 ct26), sl26⟩)
    (c26 : PySem.W.codeIn K cd26 "could_suit" = true)
    (k26 : PySem.W.keepIn K (.ref f26) = true)
    (a27 : PySem.W.nsIn K mainGlobals "check_object" = some (some (.ref f27)))
    (l27 : K.lookup f27 = some ⟨oc27, od27, .func (PySem.W.fnOf "check_object" "check_object" (defArgs s_check_object) (defBody s_check_object) (defScope s_check_object) .none kV27 dc27 pm27 an27 cd27 ct27), sl27⟩)
    (c27 : PySem.W.codeIn K cd27 "check_object" = true)
    (k27 : PySem.W.keepIn K (.ref f27) = true)
    (a28 : PySem.W.nsIn K mainGlobals "lets_plain" = some (some (.ref f28)))
    (l28 : K.lookup f28 = some ⟨oc28, od28, .func (PySem.W.fnOf "lets_plain" "lets_plain" (defArgs s_lets_plain) (defBody s_lets_plain) (defScope s_lets_plain) .none kV28 dc28 pm28 an28 cd28 ct28), sl28⟩)
    (c28 : PySem.W.codeIn K cd28 "lets_plain" = true)
    (k28 : PySem.W.keepIn K (.ref f28) = true)
    (a29 : PySem.W.nsIn K mainGlobals "is_plain" = some (some (.ref f29)))
    (l29 : K.lookup f29 = some ⟨oc29, od29, .func (PySem.W.fnOf "is_plain" "is_plain" (defArgs s_is_plain) (defBody s_is_plain) (defScope s_is_plain) .none kV29 dc29 pm29 an29 cd29 ct29), sl29⟩)
    (c29 : PySem.W.codeIn K cd29 "is_plain" = true)
    (k29 : PySem.W.keepIn K (.ref f29) = true)
    (a30 : PySem.W.nsIn K mainGlobals "_law_rises" = some (some (.ref f30)))
    (l30 : K.lookup f30 = some ⟨oc30, od30, .func (PySem.W.fnOf "_law_rises" "_law_rises" (defArgs s_law_rises) (defBody s_law_rises) (defScope s_law_rises) .none kV30 dc30 pm30 an30 cd30 ct30), sl30⟩)
    (c30 : PySem.W.codeIn K cd30 "_law_rises" = true)
    (k30 : PySem.W.keepIn K (.ref f30) = true)
    (a31 : PySem.W.nsIn K mainGlobals "_law_named" = some (some (.ref f31)))
    (l31 : K.lookup f31 = some ⟨oc31, od31, .func (PySem.W.fnOf "_law_named" "_law_named" (defArgs s_law_named) (defBody s_law_named) (defScope s_law_named) .none kV31 dc31 pm31 an31 cd31 ct31), sl31⟩)
    (c31 : PySem.W.codeIn K cd31 "_law_named" = true)
    (k31 : PySem.W.keepIn K (.ref f31) = true)
    (a32 : PySem.W.nsIn K mainGlobals "_law_pairs_of" = some (some (.ref f32)))
    (l32 : K.lookup f32 = some ⟨oc32, od32, .func (PySem.W.fnOf "_law_pairs_of" "_law_pairs_of" (defArgs s_law_pairs_of) (defBody s_law_pairs_of) (defScope s_law_pairs_of) .none kV32 dc32 pm32 an32 cd32 ct32), sl32⟩)
    (c32 : PySem.W.codeIn K cd32 "_law_pairs_of" = true)
    (k32 : PySem.W.keepIn K (.ref f32) = true)
    (a33 : PySem.W.nsIn K mainGlobals "_law_integer" = some (some (.ref f33)))
    (l33 : K.lookup f33 = some ⟨oc33, od33, .func (PySem.W.fnOf "_law_integer" "_law_integer" (defArgs s_law_integer) (defBody s_law_integer) (defScope s_law_integer) .none kV33 dc33 pm33 an33 cd33 ct33), sl33⟩)
    (c33 : PySem.W.codeIn K cd33 "_law_integer" = true)
    (k33 : PySem.W.keepIn K (.ref f33) = true)
    (a34 : PySem.W.nsIn K mainGlobals "_law_kinded" = some (some (.ref f34)))
    (l34 : K.lookup f34 = some ⟨oc34, od34, .func (PySem.W.fnOf "_law_kinded" "_law_kinded" (defArgs s_law_kinded) (defBody s_law_kinded) (defScope s_law_kinded) .none kV34 dc34 pm34 an34 cd34 ct34), sl34⟩)
    (c34 : PySem.W.codeIn K cd34 "_law_kinded" = true)
    (k34 : PySem.W.keepIn K (.ref f34) = true)
    (a35 : PySem.W.nsIn K mainGlobals "_law_formed" = some (some (.ref f35)))
    (l35 : K.lookup f35 = some ⟨oc35, od35, .func (PySem.W.fnOf "_law_formed" "_law_formed" (defArgs s_law_formed) (defBody s_law_formed) (defScope s_law_formed) .none kV35 dc35 pm35 an35 cd35 ct35), sl35⟩)
    (c35 : PySem.W.codeIn K cd35 "_law_formed" = true)
    (k35 : PySem.W.keepIn K (.ref f35) = true)
    (a36 : PySem.W.nsIn K mainGlobals "_law_schemed" = some (some (.ref f36)))
    (l36 : K.lookup f36 = some ⟨oc36, od36, .func (PySem.W.fnOf "_law_schemed" "_law_schemed" (defArgs s_law_schemed) (defBody s_law_schemed) (defScope s_law_schemed) .none kV36 dc36 pm36 an36 cd36 ct36), sl36⟩)
    (c36 : PySem.W.codeIn K cd36 "_law_schemed" = true)
    (k36 : PySem.W.keepIn K (.ref f36) = true)
    (a37 : PySem.W.nsIn K mainGlobals "_law_has_shape" = some (some (.ref f37)))
    (l37 : K.lookup f37 = some ⟨oc37, od37, .func (PySem.W.fnOf "_law_has_shape" "_law_has_shape" (defArgs s_law_has_shape) (defBody s_law_has_shape) (defScope s_law_has_shape) .none kV37 dc37 pm37 an37 cd37 ct37), sl37⟩)
    (c37 : PySem.W.codeIn K cd37 "_law_has_shape" = true)
    (k37 : PySem.W.keepIn K (.ref f37) = true)
    (a38 : PySem.W.nsIn K mainGlobals "_law_value_ok" = some (some (.ref f38)))
    (l38 : K.lookup f38 = some ⟨oc38, od38, .func (PySem.W.fnOf "_law_value_ok" "_law_value_ok" (defArgs s_law_value_ok) (defBody s_law_value_ok) (defScope s_law_value_ok) .none kV38 dc38 pm38 an38 cd38 ct38), sl38⟩)
    (c38 : PySem.W.codeIn K cd38 "_law_value_ok" = true)
    (k38 : PySem.W.keepIn K (.ref f38) = true)
    (a39 : PySem.W.nsIn K mainGlobals "_law_objects_fault" = some (some (.ref f39)))
    (l39 : K.lookup f39 = some ⟨oc39, od39, .func (PySem.W.fnOf "_law_objects_fault" "_law_objects_fault" (defArgs s_law_objects_fault) (defBody s_law_objects_fault) (defScope s_law_objects_fault) .none kV39 dc39 pm39 an39 cd39 ct39), sl39⟩)
    (c39 : PySem.W.codeIn K cd39 "_law_objects_fault" = true)
    (k39 : PySem.W.keepIn K (.ref f39) = true)
    (a40 : PySem.W.nsIn K mainGlobals "_law_links_fault" = some (some (.ref f40)))
    (l40 : K.lookup f40 = some ⟨oc40, od40, .func (PySem.W.fnOf "_law_links_fault" "_law_links_fault" (defArgs s_law_links_fault) (defBody s_law_links_fault) (defScope s_law_links_fault) .none kV40 dc40 pm40 an40 cd40 ct40), sl40⟩)
    (c40 : PySem.W.codeIn K cd40 "_law_links_fault" = true)
    (k40 : PySem.W.keepIn K (.ref f40) = true)
    (a41 : PySem.W.nsIn K mainGlobals "_law_heard" = some (some (.ref f41)))
    (l41 : K.lookup f41 = some ⟨oc41, od41, .func (PySem.W.fnOf "_law_heard" "_law_heard" (defArgs s_law_heard) (defBody s_law_heard) (defScope s_law_heard) .none kV41 dc41 pm41 an41 cd41 ct41), sl41⟩)
    (c41 : PySem.W.codeIn K cd41 "_law_heard" = true)
    (k41 : PySem.W.keepIn K (.ref f41) = true)
    (a42 : PySem.W.nsIn K mainGlobals "_law_right" = some (some (.ref f42)))
    (l42 : K.lookup f42 = some ⟨oc42, od42, .func (PySem.W.fnOf "_law_right" "_law_right" (defArgs s_law_right) (defBody s_law_right) (defScope s_law_right) .none kV42 dc42 pm42 an42 cd42 ct42), sl42⟩)
    (c42 : PySem.W.codeIn K cd42 "_law_right" = true)
    (k42 : PySem.W.keepIn K (.ref f42) = true)
    (t42 : tabFree K "_law_right" = true)
    (m42 : ("_law_right" : Str) ∈ NM)
    (a43 : PySem.W.nsIn K mainGlobals "law" = some (some (.ref f43)))
    (l43 : K.lookup f43 = some ⟨oc43, od43, .func (PySem.W.fnOf "law" "law" (defArgs s_law) (defBody s_law) (defScope s_law) .none kV43 dc43 pm43 an43 cd43 ct43), sl43⟩)
    (c43 : PySem.W.codeIn K cd43 "law" = true)
    (k43 : PySem.W.keepIn K (.ref f43) = true)
    (zb_all : PySem.W.nsIn K mainGlobals "all" = some none)
    (zb_bool : PySem.W.nsIn K mainGlobals "bool" = some none)
    (zb_dict : PySem.W.nsIn K mainGlobals "dict" = some none)
    (zb_enumerate : PySem.W.nsIn K mainGlobals "enumerate" = some none)
    (zb_int : PySem.W.nsIn K mainGlobals "int" = some none)
    (zb_isinstance : PySem.W.nsIn K mainGlobals "isinstance" = some none)
    (zb_len : PySem.W.nsIn K mainGlobals "len" = some none)
    (zb_list : PySem.W.nsIn K mainGlobals "list" = some none)
    (zb_ord : PySem.W.nsIn K mainGlobals "ord" = some none)
    (zb_range : PySem.W.nsIn K mainGlobals "range" = some none)
    (zb_repr : PySem.W.nsIn K mainGlobals "repr" = some none)
    (zb_sorted : PySem.W.nsIn K mainGlobals "sorted" = some none)
    (zb_str : PySem.W.nsIn K mainGlobals "str" = some none)
    (zb_tuple : PySem.W.nsIn K mainGlobals "tuple" = some none)
    (zc_LETTERS : PySem.W.nsIn K mainGlobals "LETTERS" = some (some (.str "abcdefghijklmnopqrstuvwxyz" tk_LETTERS)))
    (zc_LONGEST : PySem.W.nsIn K mainGlobals "LONGEST" = some (some (.int 8 tk_LONGEST)))
    (g_InvalidPaper : PySem.W.nsIn K mainGlobals "InvalidPaper" = some (some (.ref CInvalidPaper)))
    (g_LateError : PySem.W.nsIn K mainGlobals "LateError" = some (some (.ref CLateError)))
    (g_InvalidText : PySem.W.nsIn K mainGlobals "InvalidText" = some (some (.ref CInvalidText)))
    (g_PaperError : PySem.W.nsIn K mainGlobals "PaperError" = some (some (.ref CPaperError)))
    (g_StoreError : PySem.W.nsIn K mainGlobals "StoreError" = some (some (.ref CStoreError)))
    (g_TextError : PySem.W.nsIn K mainGlobals "TextError" = some (some (.ref CTextError)))
    (g_UnfitExpression : PySem.W.nsIn K mainGlobals "UnfitExpression" = some (some (.ref CUnfitExpression)))
    (g_UnknownObject : PySem.W.nsIn K mainGlobals "UnknownObject" = some (some (.ref CUnknownObject)))
    (g_InvalidStep : PySem.W.nsIn K mainGlobals "InvalidStep" = some (some (.ref CInvalidStep)))
    (g_GoneCell : PySem.W.nsIn K mainGlobals "GoneCell" = some (some (.ref CGoneCell)))
    (g_NothingToUndo : PySem.W.nsIn K mainGlobals "NothingToUndo" = some (some (.ref CNothingToUndo)))
    (g_InvalidPace : PySem.W.nsIn K mainGlobals "InvalidPace" = some (some (.ref CInvalidPace)))
    (g_InvalidCommand : PySem.W.nsIn K mainGlobals "InvalidCommand" = some (some (.ref CInvalidCommand)))
    (xL_InvalidPaper : K.lookup CInvalidPaper = some (excClassObj nmInvalidPaper qnInvalidPaper CInvalidPaper NInvalidPaper bsInvalidPaper [.ref CPaperError, .ref CLateError, .type "ValueError", .type "Exception", .type "BaseException", .type "object"] true snInvalidPaper subInvalidPaper abInvalidPaper colInvalidPaper ddInvalidPaper k0InvalidPaper k1InvalidPaper k2InvalidPaper k3InvalidPaper k5InvalidPaper "ValueError.__new__"))
    (sa_InvalidPaper : PySem.W.findIn K (.ref CInvalidPaper) "__setattr__" = some (some (.builtin "object.__setattr__")))
    (ga_InvalidPaper : PySem.W.findIn K (.ref CInvalidPaper) "__getattribute__" = some (some (.builtin "BaseException.__getattribute__")))
    (gg_InvalidPaper : PySem.W.findIn K (.ref CInvalidPaper) "__getattr__" = some none)
    (gc_InvalidPaper : PySem.W.findIn K (.ref CInvalidPaper) "__class__" = some (some (.builtin "object.__class__")))
    (eC_InvalidPaper : PySem.W.subIn K (.ref CInvalidPaper) (.type "BaseException") = some true)
    (tC_InvalidPaper : PySem.W.typeIn K (.ref CInvalidPaper) = some (.type "type"))
    (kC_InvalidPaper : PySem.W.keepIn K (.ref CInvalidPaper) = true)
    (hC_InvalidPaper : PySem.W.hasDictIn K CInvalidPaper = true)
    (mC_InvalidPaper : PySem.W.mroIn K CInvalidPaper (.type "object") = some true)
    (nf_InvalidPaper_at : PySem.W.findIn K (.ref CInvalidPaper) "at" = some none)
    (nf_InvalidPaper_field : PySem.W.findIn K (.ref CInvalidPaper) "field" = some none)
    (nf_InvalidPaper_number : PySem.W.findIn K (.ref CInvalidPaper) "number" = some none)
    (nf_InvalidPaper_path : PySem.W.findIn K (.ref CInvalidPaper) "path" = some none)
    (nf_InvalidPaper_row : PySem.W.findIn K (.ref CInvalidPaper) "row" = some none)
    (nf_InvalidPaper_word : PySem.W.findIn K (.ref CInvalidPaper) "word" = some none)
    (fi_InvalidPaper : PySem.W.findIn K (.ref CInvalidPaper) "__init__" = some (some (.ref f1InvalidPaper)))
    (ft_InvalidPaper : PySem.W.typeIn K (.ref f1InvalidPaper) = some (.type "function"))
    (fl_InvalidPaper : K.lookup f1InvalidPaper = some ⟨ocInvalidPaper, odInvalidPaper, .func (PySem.W.fnOf "__init__" "InvalidPaper.__init__" (defArgs i_InvalidPaper) (defBody i_InvalidPaper) (defScope i_InvalidPaper) .none kVInvalidPaper dcInvalidPaper pmInvalidPaper anInvalidPaper cdInvalidPaper ctInvalidPaper), slInvalidPaper⟩)
    (fc_InvalidPaper : PySem.W.codeIn K cdInvalidPaper "InvalidPaper.__init__" = true)
    (fk_InvalidPaper : PySem.W.keepIn K (.ref f1InvalidPaper) = true)
    (zs : PySem.W.specialIn K (.builtin "object.__class__") "__get__" = some (some (.builtin "getset_descriptor.__get__")))
    (zt : PySem.W.takesIn K (.builtin "object.__class__") = some true)
    (es_InvalidPaper_InvalidPaper : PySem.W.exmOne K (.ref CInvalidPaper) (.ref CInvalidPaper) = some true)
    (es_InvalidPaper_LateError : PySem.W.exmOne K (.ref CInvalidPaper) (.ref CLateError) = some true)
    (ki_InvalidPaper_InvalidPaper : PySem.W.kitOne K (.ref CInvalidPaper) (.ref CInvalidPaper) = some true)
    (ki_InvalidPaper_InvalidText : PySem.W.kitOne K (.ref CInvalidPaper) (.ref CInvalidText) = some false)
    (ki_InvalidPaper_PaperError : PySem.W.kitOne K (.ref CInvalidPaper) (.ref CPaperError) = some true)
    (ki_InvalidPaper_StoreError : PySem.W.kitOne K (.ref CInvalidPaper) (.ref CStoreError) = some false)
    (ki_InvalidPaper_TextError : PySem.W.kitOne K (.ref CInvalidPaper) (.ref CTextError) = some false)
    (ki_InvalidPaper_UnfitExpression : PySem.W.kitOne K (.ref CInvalidPaper) (.ref CUnfitExpression) = some false)
    (ki_InvalidPaper_UnknownObject : PySem.W.kitOne K (.ref CInvalidPaper) (.ref CUnknownObject) = some false)
    (kt_InvalidPaper_0 : PySem.W.kitAny K (.ref CInvalidPaper) [.ref CInvalidStep, .ref CGoneCell, .ref CNothingToUndo, .ref CInvalidPace, .ref CInvalidCommand] = some false) :
    ∃ (fd : FuncData) (cs : List (Addr × Addr)) (T : List (Addr × Str)), (∀ p ∈ cs, h.get? p.2 = some { cls := .none, data := .fields #[] }) ∧ (∀ p ∈ cs, K.lookup p.2 = none) ∧ (∀ p ∈ cs, PySem.W.CodeHd h p.1 p.2) ∧ (∀ p ∈ T, p.1 ∈ cs.map (·.2)) ∧ (∀ (s : Shared) (u : Value), BindsTo s fd ⟨[u], []⟩ [("_law_script", u)]) ∧
    ∀ base : Heap, K.In base → base.Ns mainGlobals mg → (∀ p ∈ cs, LamX.TabB base mg p.1 p.2) → @FnG ⟨T⟩ true P w K mg base 34 fa fd ["_law_script"] g_law := by
  have e := hfa.symm.trans (PySem.W.mg_of X G a43)
  cases e
  obtain ⟨cc42, tt42, q42, u42⟩ := tabFree_ok t42
  refine ⟨PySem.W.fnOf "law" "law" (defArgs s_law) (defBody s_law) (defScope s_law) .none kV43 dc43 pm43 an43 cd43 ct43, [(cc42, tt42)], [(tt42, "_law_right.<locals>.<lambda>")], List.forall_mem_cons.mpr ⟨(HT _ _ _ q42 m42).2, fun _ z => (nomatch z)⟩, List.forall_mem_cons.mpr ⟨u42, fun _ z => (nomatch z)⟩, List.forall_mem_cons.mpr ⟨(HT _ _ _ q42 m42).1, fun _ z => (nomatch z)⟩, List.forall_mem_cons.mpr ⟨List.mem_map.mpr ⟨(cc42, tt42), by simp, rfl⟩, fun _ z => (nomatch z)⟩, fun s v => .of_eq rfl, fun base _ _ hTB => ?_⟩
  letI tb : Fx.Tabl := ⟨[(tt42, "_law_right.<locals>.<lambda>")]⟩
  have oex_InvalidPaper : OexC K CInvalidPaper := ⟨⟨_, _, _, _, _, _, _, _, _, _, _, _, _, _, _, xL_InvalidPaper, by first | rfl | decide | simp [PySem.HandSPX.refsVE]⟩, sa_InvalidPaper, eC_InvalidPaper, tC_InvalidPaper, kC_InvalidPaper⟩
  have xfc_InvalidPaper : XfC K CInvalidPaper := ⟨ga_InvalidPaper, gg_InvalidPaper, eC_InvalidPaper, hC_InvalidPaper⟩
  have exc_InvalidPaper : L2.ExcC K CInvalidPaper := ⟨ga_InvalidPaper, gg_InvalidPaper, eC_InvalidPaper, hC_InvalidPaper, gc_InvalidPaper, zs, zt, mC_InvalidPaper⟩
  have T : Tx K mg base := {
    d_law_feed := def_mk X G a0 l0 c0 k0 (fun _ _ _ _ _ _ us hl => match us, hl with | [_], _ => rfl)
    d_law_draw := def_mk X G a1 l1 c1 k1 (fun _ _ _ _ _ _ us hl => match us, hl with | [_, _], _ => rfl)
    d_law_value := def_mk X G a2 l2 c2 k2 (fun _ _ _ _ _ _ us hl => match us, hl with | [_, _, _], _ => rfl)
    d_law_store := def_mk X G a3 l3 c3 k3 (fun _ _ _ _ _ _ us hl => match us, hl with | [_, _], _ => rfl)
    d_law_base := def_mk X G a4 l4 c4 k4 (fun _ _ _ _ _ _ us hl => match us, hl with | [], _ => rfl)
    d_law_by_hand := def_mk X G a5 l5 c5 k5 (fun _ _ _ _ _ _ us hl => match us, hl with | [], _ => rfl)
    d_law_ordered := def_mk X G a6 l6 c6 k6 (fun _ _ _ _ _ _ us hl => match us, hl with | [_], _ => rfl)
    d_law_schema := def_mk X G a7 l7 c7 k7 (fun _ _ _ _ _ _ us hl => match us, hl with | [_], _ => rfl)
    d_law_odd := def_mk X G a8 l8 c8 k8 (fun _ _ _ _ _ _ us hl => match us, hl with | [_], _ => rfl)
    d_law_bent := def_mk X G a9 l9 c9 k9 (fun _ _ _ _ _ _ us hl => match us, hl with | [_, _], _ => rfl)
    d_form_of := def_mk X G a10 l10 c10 k10 (fun _ _ _ _ _ _ us hl => match us, hl with | [_, _], _ => rfl)
    d_is_link := def_mk X G a11 l11 c11 k11 (fun _ _ _ _ _ _ us hl => match us, hl with | [_], _ => rfl)
    d_check_links := def_mk X G a12 l12 c12 k12 (fun _ _ _ _ _ _ us hl => match us, hl with | [_, _], _ => rfl)
    d_ascends := def_mk X G a13 l13 c13 k13 (fun _ _ _ _ _ _ us hl => match us, hl with | [_], _ => rfl)
    d_is_name := def_mk X G a14 l14 c14 k14 (fun _ _ _ _ _ _ us hl => match us, hl with | [_], _ => rfl)
    d_are_named := def_mk X G a15 l15 c15 k15 (fun _ _ _ _ _ _ us hl => match us, hl with | [_], _ => rfl)
    d_links_lead := def_mk X G a16 l16 c16 k16 (fun _ _ _ _ _ _ us hl => match us, hl with | [_, _], _ => rfl)
    d_is_integer := def_mk X G a17 l17 c17 k17 (fun _ _ _ _ _ _ us hl => match us, hl with | [_], _ => rfl)
    d_is_range := def_mk X G a18 l18 c18 k18 (fun _ _ _ _ _ _ us hl => match us, hl with | [_], _ => rfl)
    d_is_kind := def_mk X G a19 l19 c19 k19 (fun _ _ _ _ _ _ us hl => match us, hl with | [_], _ => rfl)
    d_is_form := def_mk X G a20 l20 c20 k20 (fun _ _ _ _ _ _ us hl => match us, hl with | [_], _ => rfl)
    d_is_schema := def_mk X G a21 l21 c21 k21 (fun _ _ _ _ _ _ us hl => match us, hl with | [_], _ => rfl)
    d_is_number := def_mk X G a22 l22 c22 k22 (fun _ _ _ _ _ _ us hl => match us, hl with | [_], _ => rfl)
    d_is_row := def_mk X G a23 l23 c23 k23 (fun _ _ _ _ _ _ us hl => match us, hl with | [_], _ => rfl)
    d_has_shape := def_mk X G a24 l24 c24 k24 (fun _ _ _ _ _ _ us hl => match us, hl with | [_], _ => rfl)
    d_in_range := def_mk X G a25 l25 c25 k25 (fun _ _ _ _ _ _ us hl => match us, hl with | [_, _], _ => rfl)
    d_could_suit := def_mk X G a26 l26 c26 k26 (fun _ _ _ _ _ _ us hl => match us, hl with | [_, _], _ => rfl)
    d_check_object := def_mk X G a27 l27 c27 k27 (fun _ _ _ _ _ _ us hl => match us, hl with | [_, _, _], _ => rfl)
    d_lets_plain := def_mk X G a28 l28 c28 k28 (fun _ _ _ _ _ _ us hl => match us, hl with | [_], _ => rfl)
    d_is_plain := def_mk X G a29 l29 c29 k29 (fun _ _ _ _ _ _ us hl => match us, hl with | [_], _ => rfl)
    d_law_rises := def_mk X G a30 l30 c30 k30 (fun _ _ _ _ _ _ us hl => match us, hl with | [_], _ => rfl)
    d_law_named := def_mk X G a31 l31 c31 k31 (fun _ _ _ _ _ _ us hl => match us, hl with | [_], _ => rfl)
    d_law_pairs_of := def_mk X G a32 l32 c32 k32 (fun _ _ _ _ _ _ us hl => match us, hl with | [_], _ => rfl)
    d_law_integer := def_mk X G a33 l33 c33 k33 (fun _ _ _ _ _ _ us hl => match us, hl with | [_], _ => rfl)
    d_law_kinded := def_mk X G a34 l34 c34 k34 (fun _ _ _ _ _ _ us hl => match us, hl with | [_], _ => rfl)
    d_law_formed := def_mk X G a35 l35 c35 k35 (fun _ _ _ _ _ _ us hl => match us, hl with | [_], _ => rfl)
    d_law_schemed := def_mk X G a36 l36 c36 k36 (fun _ _ _ _ _ _ us hl => match us, hl with | [_], _ => rfl)
    d_law_has_shape := def_mk X G a37 l37 c37 k37 (fun _ _ _ _ _ _ us hl => match us, hl with | [_], _ => rfl)
    d_law_value_ok := def_mk X G a38 l38 c38 k38 (fun _ _ _ _ _ _ us hl => match us, hl with | [_, _], _ => rfl)
    d_law_objects_fault := def_mk X G a39 l39 c39 k39 (fun _ _ _ _ _ _ us hl => match us, hl with | [_], _ => rfl)
    d_law_links_fault := def_mk X G a40 l40 c40 k40 (fun _ _ _ _ _ _ us hl => match us, hl with | [_], _ => rfl)
    d_law_heard := def_mk X G a41 l41 c41 k41 (fun _ _ _ _ _ _ us hl => match us, hl with | [_], _ => rfl)
    d_law_right := def_mk X G a42 l42 c42 k42 (fun _ _ _ _ _ _ us hl => match us, hl with | [_], _ => rfl)
    d_law := def_mk X G a43 l43 c43 k43 (fun _ _ _ _ _ _ us hl => match us, hl with | [_], _ => rfl)
    b_all := PySem.W.mg_none_of X G zb_all
    b_bool := PySem.W.mg_none_of X G zb_bool
    b_dict := PySem.W.mg_none_of X G zb_dict
    b_enumerate := PySem.W.mg_none_of X G zb_enumerate
    b_int := PySem.W.mg_none_of X G zb_int
    b_isinstance := PySem.W.mg_none_of X G zb_isinstance
    b_len := PySem.W.mg_none_of X G zb_len
    b_list := PySem.W.mg_none_of X G zb_list
    b_ord := PySem.W.mg_none_of X G zb_ord
    b_range := PySem.W.mg_none_of X G zb_range
    b_repr := PySem.W.mg_none_of X G zb_repr
    b_sorted := PySem.W.mg_none_of X G zb_sorted
    b_str := PySem.W.mg_none_of X G zb_str
    b_tuple := PySem.W.mg_none_of X G zb_tuple
    c_LETTERS := ⟨_, PySem.W.mg_of X G zc_LETTERS, ⟨_, rfl⟩⟩
    c_LONGEST := ⟨_, PySem.W.mg_of X G zc_LONGEST, ⟨_, rfl⟩⟩
    n_InvalidPaper := ⟨_, PySem.W.mg_of X G g_InvalidPaper, List.forall_mem_cons.mpr ⟨⟨⟨_, PySem.W.mg_of X G g_InvalidPaper, es_InvalidPaper_InvalidPaper⟩⟩, fun _ z => (nomatch z)⟩⟩
    n_LateError := ⟨_, PySem.W.mg_of X G g_LateError, List.forall_mem_cons.mpr ⟨⟨⟨_, PySem.W.mg_of X G g_InvalidPaper, es_InvalidPaper_LateError⟩⟩, fun _ z => (nomatch z)⟩⟩
    x_InvalidPaper := ⟨⟨CInvalidPaper, f1InvalidPaper, _, _, i_InvalidPaper, _, _, _, _, _, _, _, _, ⟨PySem.W.mg_of X G g_InvalidPaper, oex_InvalidPaper⟩, nf_InvalidPaper_word, nf_InvalidPaper_at, fi_InvalidPaper, ft_InvalidPaper, fun_mk fl_InvalidPaper fc_InvalidPaper fk_InvalidPaper, ⟨rfl, rfl, rfl, by decide +kernel, rfl, by decide +kernel, by decide +kernel⟩, rfl, (fun_mk fl_InvalidPaper fc_InvalidPaper fk_InvalidPaper).binds (fun _ _ _ _ _ _ us hl => match us, hl with | [_, _, _], _ => rfl)⟩⟩
    L_InvalidPaper := ⟨⟨CInvalidPaper, PySem.W.mg_of X G g_InvalidPaper, xfc_InvalidPaper, exc_InvalidPaper, List.forall_mem_cons.mpr ⟨nf_InvalidPaper_at, List.forall_mem_cons.mpr ⟨nf_InvalidPaper_field, List.forall_mem_cons.mpr ⟨nf_InvalidPaper_number, List.forall_mem_cons.mpr ⟨nf_InvalidPaper_path, List.forall_mem_cons.mpr ⟨nf_InvalidPaper_row, List.forall_mem_cons.mpr ⟨nf_InvalidPaper_word, fun _ z => (nomatch z)⟩⟩⟩⟩⟩⟩⟩⟩
    k_InvalidPaper := List.forall_mem_cons.mpr ⟨⟨⟨_, _, PySem.W.mg_of X G g_InvalidPaper, PySem.W.mg_of X G g_InvalidPaper, ki_InvalidPaper_InvalidPaper⟩⟩, fun _ z => (nomatch z)⟩
    k_InvalidText := List.forall_mem_cons.mpr ⟨⟨⟨_, _, PySem.W.mg_of X G g_InvalidPaper, PySem.W.mg_of X G g_InvalidText, ki_InvalidPaper_InvalidText⟩⟩, fun _ z => (nomatch z)⟩
    k_PaperError := List.forall_mem_cons.mpr ⟨⟨⟨_, _, PySem.W.mg_of X G g_InvalidPaper, PySem.W.mg_of X G g_PaperError, ki_InvalidPaper_PaperError⟩⟩, fun _ z => (nomatch z)⟩
    k_StoreError := List.forall_mem_cons.mpr ⟨⟨⟨_, _, PySem.W.mg_of X G g_InvalidPaper, PySem.W.mg_of X G g_StoreError, ki_InvalidPaper_StoreError⟩⟩, fun _ z => (nomatch z)⟩
    k_TextError := List.forall_mem_cons.mpr ⟨⟨⟨_, _, PySem.W.mg_of X G g_InvalidPaper, PySem.W.mg_of X G g_TextError, ki_InvalidPaper_TextError⟩⟩, fun _ z => (nomatch z)⟩
    k_UnfitExpression := List.forall_mem_cons.mpr ⟨⟨⟨_, _, PySem.W.mg_of X G g_InvalidPaper, PySem.W.mg_of X G g_UnfitExpression, ki_InvalidPaper_UnfitExpression⟩⟩, fun _ z => (nomatch z)⟩
    k_UnknownObject := List.forall_mem_cons.mpr ⟨⟨⟨_, _, PySem.W.mg_of X G g_InvalidPaper, PySem.W.mg_of X G g_UnknownObject, ki_InvalidPaper_UnknownObject⟩⟩, fun _ z => (nomatch z)⟩
    k_InvalidStep_GoneCell_NothingToUndo_InvalidPace_InvalidCommand := List.forall_mem_cons.mpr ⟨⟨⟨_, [CInvalidStep, CGoneCell, CNothingToUndo, CInvalidPace, CInvalidCommand], PySem.W.mg_of X G g_InvalidPaper, .cons (PySem.W.mg_of X G g_InvalidStep) (.cons (PySem.W.mg_of X G g_GoneCell) (.cons (PySem.W.mg_of X G g_NothingToUndo) (.cons (PySem.W.mg_of X G g_InvalidPace) (.cons (PySem.W.mg_of X G g_InvalidCommand) (.nil))))), kt_InvalidPaper_0⟩⟩, fun _ z => (nomatch z)⟩
    l_law_right := ⟨cc42, tt42, tab_code X G q42, hTB (cc42, tt42) (by simp), (by show (_, _) ∈ ([(tt42, "_law_right.<locals>.<lambda>")] : List (Addr × Str)); simp), fun p hp e => by (have hp : p ∈ ([(tt42, "_law_right.<locals>.<lambda>")] : List (Addr × Str)) := hp); simp only [List.mem_cons, List.not_mem_nil, or_false] at hp; rcases hp with rfl <;> first | rfl | (exact absurd e (by assumption))⟩ }
  exact law_of (ok_law (P := P) (w := w) (base := base) T) hfa l43
end K03

open PySem PySem.W PyProof.Rows in
set_option maxRecDepth 100000 in
set_option maxHeartbeats 0 in
theorem PySem.Challenge.cw_lateforms_k03_plain_stores_checked_holds : PySem.Challenge.rw_lateforms_k03_plain_stores_checked.Holds := by
  w_on; o_law; k_head; (case hw => w_witness2)
  k_fill
  refine Fx.law_walk (l := PySem.Challenge.rw_lateforms_k03_plain_stores_checked) (g := K03.g_law) (k := 34) (x := "_law_script") rfl rfl ⟨rfl, by decide, by decide⟩ (fun w h Y => by first | exact PySem.W.kIn_of Y | exact PySem.W.km_in_of Y) ?F (fun ns hn hb => @K03.law_true ⟨[]⟩ ns hn)
  case F =>
    intro w mg fa h HT KX G hmg
    refine' K03.all_mk HT KX G hmg ?a0 ?l0 ?c0 ?k0 ?a1 ?l1 ?c1 ?k1 ?a2 ?l2 ?c2 ?k2 ?a3 ?l3 ?c3 ?k3 ?a4 ?l4 ?c4 ?k4 ?a5 ?l5 ?c5 ?k5 ?a6 ?l6 ?c6 ?k6 ?a7 ?l7 ?c7 ?k7 ?a8 ?l8 ?c8 ?k8 ?a9 ?l9 ?c9 ?k9 ?a10 ?l10 ?c10 ?k10 ?a11 ?l11 ?c11 ?k11 ?a12 ?l12 ?c12 ?k12 ?a13 ?l13 ?c13 ?k13 ?a14 ?l14 ?c14 ?k14 ?a15 ?l15 ?c15 ?k15 ?a16 ?l16 ?c16 ?k16 ?a17 ?l17 ?c17 ?k17 ?a18 ?l18 ?c18 ?k18 ?a19 ?l19 ?c19 ?k19 ?a20 ?l20 ?c20 ?k20 ?a21 ?l21 ?c21 ?k21 ?a22 ?l22 ?c22 ?k22 ?a23 ?l23 ?c23 ?k23 ?a24 ?l24 ?c24 ?k24 ?a25 ?l25 ?c25 ?k25 ?a26 ?l26 ?c26 ?k26 ?a27 ?l27 ?c27 ?k27 ?a28 ?l28 ?c28 ?k28 ?a29 ?l29 ?c29 ?k29 ?a30 ?l30 ?c30 ?k30 ?a31 ?l31 ?c31 ?k31 ?a32 ?l32 ?c32 ?k32 ?a33 ?l33 ?c33 ?k33 ?a34 ?l34 ?c34 ?k34 ?a35 ?l35 ?c35 ?k35 ?a36 ?l36 ?c36 ?k36 ?a37 ?l37 ?c37 ?k37 ?a38 ?l38 ?c38 ?k38 ?a39 ?l39 ?c39 ?k39 ?a40 ?l40 ?c40 ?k40 ?a41 ?l41 ?c41 ?k41 ?a42 ?l42 ?c42 ?k42 ?t42 ?m42 ?a43 ?l43 ?c43 ?k43 ?zb_all ?zb_bool ?zb_dict ?zb_enumerate ?zb_int ?zb_isinstance ?zb_len ?zb_list ?zb_ord ?zb_range ?zb_repr ?zb_sorted ?zb_str ?zb_tuple ?zc_LETTERS ?zc_LONGEST ?g_InvalidPaper ?g_LateError ?g_InvalidText ?g_PaperError ?g_StoreError ?g_TextError ?g_UnfitExpression ?g_UnknownObject ?g_InvalidStep ?g_GoneCell ?g_NothingToUndo ?g_InvalidPace ?g_InvalidCommand ?xL_InvalidPaper ?sa_InvalidPaper ?ga_InvalidPaper ?gg_InvalidPaper ?gc_InvalidPaper ?eC_InvalidPaper ?tC_InvalidPaper ?kC_InvalidPaper ?hC_InvalidPaper ?mC_InvalidPaper ?nf_InvalidPaper_at ?nf_InvalidPaper_field ?nf_InvalidPaper_number ?nf_InvalidPaper_path ?nf_InvalidPaper_row ?nf_InvalidPaper_word ?fi_InvalidPaper ?ft_InvalidPaper ?fl_InvalidPaper ?fc_InvalidPaper ?fk_InvalidPaper ?zs ?zt ?es_InvalidPaper_InvalidPaper ?es_InvalidPaper_LateError ?ki_InvalidPaper_InvalidPaper ?ki_InvalidPaper_InvalidText ?ki_InvalidPaper_PaperError ?ki_InvalidPaper_StoreError ?ki_InvalidPaper_TextError ?ki_InvalidPaper_UnfitExpression ?ki_InvalidPaper_UnknownObject ?kt_InvalidPaper_0
    (case a0 => k_is)
    (case l0 => k_is)
    (case c0 => k_is)
    (case k0 => k_is)
    (case a1 => k_is)
    (case l1 => k_is)
    (case c1 => k_is)
    (case k1 => k_is)
    (case a2 => k_is)
    (case l2 => k_is)
    (case c2 => k_is)
    (case k2 => k_is)
    (case a3 => k_is)
    (case l3 => k_is)
    (case c3 => k_is)
    (case k3 => k_is)
    (case a4 => k_is)
    (case l4 => k_is)
    (case c4 => k_is)
    (case k4 => k_is)
    (case a5 => k_is)
    (case l5 => k_is)
    (case c5 => k_is)
    (case k5 => k_is)
    (case a6 => k_is)
    (case l6 => k_is)
    (case c6 => k_is)
    (case k6 => k_is)
    (case a7 => k_is)
    (case l7 => k_is)
    (case c7 => k_is)
    (case k7 => k_is)
    (case a8 => k_is)
    (case l8 => k_is)
    (case c8 => k_is)
    (case k8 => k_is)
    (case a9 => k_is)
    (case l9 => k_is)
    (case c9 => k_is)
    (case k9 => k_is)
    (case a10 => k_is)
    (case l10 => k_is)
    (case c10 => k_is)
    (case k10 => k_is)
    (case a11 => k_is)
    (case l11 => k_is)
    (case c11 => k_is)
    (case k11 => k_is)
    (case a12 => k_is)
    (case l12 => k_is)
    (case c12 => k_is)
    (case k12 => k_is)
    (case a13 => k_is)
    (case l13 => k_is)
    (case c13 => k_is)
    (case k13 => k_is)
    (case a14 => k_is)
    (case l14 => k_is)
    (case c14 => k_is)
    (case k14 => k_is)
    (case a15 => k_is)
    (case l15 => k_is)
    (case c15 => k_is)
    (case k15 => k_is)
    (case a16 => k_is)
    (case l16 => k_is)
    (case c16 => k_is)
    (case k16 => k_is)
    (case a17 => k_is)
    (case l17 => k_is)
    (case c17 => k_is)
    (case k17 => k_is)
    (case a18 => k_is)
    (case l18 => k_is)
    (case c18 => k_is)
    (case k18 => k_is)
    (case a19 => k_is)
    (case l19 => k_is)
    (case c19 => k_is)
    (case k19 => k_is)
    (case a20 => k_is)
    (case l20 => k_is)
    (case c20 => k_is)
    (case k20 => k_is)
    (case a21 => k_is)
    (case l21 => k_is)
    (case c21 => k_is)
    (case k21 => k_is)
    (case a22 => k_is)
    (case l22 => k_is)
    (case c22 => k_is)
    (case k22 => k_is)
    (case a23 => k_is)
    (case l23 => k_is)
    (case c23 => k_is)
    (case k23 => k_is)
    (case a24 => k_is)
    (case l24 => k_is)
    (case c24 => k_is)
    (case k24 => k_is)
    (case a25 => k_is)
    (case l25 => k_is)
    (case c25 => k_is)
    (case k25 => k_is)
    (case a26 => k_is)
    (case l26 => k_is)
    (case c26 => k_is)
    (case k26 => k_is)
    (case a27 => k_is)
    (case l27 => k_is)
    (case c27 => k_is)
    (case k27 => k_is)
    (case a28 => k_is)
    (case l28 => k_is)
    (case c28 => k_is)
    (case k28 => k_is)
    (case a29 => k_is)
    (case l29 => k_is)
    (case c29 => k_is)
    (case k29 => k_is)
    (case a30 => k_is)
    (case l30 => k_is)
    (case c30 => k_is)
    (case k30 => k_is)
    (case a31 => k_is)
    (case l31 => k_is)
    (case c31 => k_is)
    (case k31 => k_is)
    (case a32 => k_is)
    (case l32 => k_is)
    (case c32 => k_is)
    (case k32 => k_is)
    (case a33 => k_is)
    (case l33 => k_is)
    (case c33 => k_is)
    (case k33 => k_is)
    (case a34 => k_is)
    (case l34 => k_is)
    (case c34 => k_is)
    (case k34 => k_is)
    (case a35 => k_is)
    (case l35 => k_is)
    (case c35 => k_is)
    (case k35 => k_is)
    (case a36 => k_is)
    (case l36 => k_is)
    (case c36 => k_is)
    (case k36 => k_is)
    (case a37 => k_is)
    (case l37 => k_is)
    (case c37 => k_is)
    (case k37 => k_is)
    (case a38 => k_is)
    (case l38 => k_is)
    (case c38 => k_is)
    (case k38 => k_is)
    (case a39 => k_is)
    (case l39 => k_is)
    (case c39 => k_is)
    (case k39 => k_is)
    (case a40 => k_is)
    (case l40 => k_is)
    (case c40 => k_is)
    (case k40 => k_is)
    (case a41 => k_is)
    (case l41 => k_is)
    (case c41 => k_is)
    (case k41 => k_is)
    (case a42 => k_is)
    (case l42 => k_is)
    (case c42 => k_is)
    (case k42 => k_is)
    (case t42 => kernel_rfl)
    (case m42 => decide +kernel)
    (case a43 => k_is)
    (case l43 => k_is)
    (case c43 => k_is)
    (case k43 => k_is)
    (case zb_all => k_is)
    (case zb_bool => k_is)
    (case zb_dict => k_is)
    (case zb_enumerate => k_is)
    (case zb_int => k_is)
    (case zb_isinstance => k_is)
    (case zb_len => k_is)
    (case zb_list => k_is)
    (case zb_ord => k_is)
    (case zb_range => k_is)
    (case zb_repr => k_is)
    (case zb_sorted => k_is)
    (case zb_str => k_is)
    (case zb_tuple => k_is)
    (case zc_LETTERS => k_is)
    (case zc_LONGEST => k_is)
    (case g_InvalidPaper => k_is)
    (case g_LateError => k_is)
    (case g_InvalidText => k_is)
    (case g_PaperError => k_is)
    (case g_StoreError => k_is)
    (case g_TextError => k_is)
    (case g_UnfitExpression => k_is)
    (case g_UnknownObject => k_is)
    (case g_InvalidStep => k_is)
    (case g_GoneCell => k_is)
    (case g_NothingToUndo => k_is)
    (case g_InvalidPace => k_is)
    (case g_InvalidCommand => k_is)
    (case xL_InvalidPaper => k_is)
    (case sa_InvalidPaper => k_is)
    (case ga_InvalidPaper => k_is)
    (case gg_InvalidPaper => k_is)
    (case gc_InvalidPaper => k_is)
    (case eC_InvalidPaper => k_is)
    (case tC_InvalidPaper => k_is)
    (case kC_InvalidPaper => k_is)
    (case hC_InvalidPaper => k_is)
    (case mC_InvalidPaper => k_is)
    (case nf_InvalidPaper_at => k_is)
    (case nf_InvalidPaper_field => k_is)
    (case nf_InvalidPaper_number => k_is)
    (case nf_InvalidPaper_path => k_is)
    (case nf_InvalidPaper_row => k_is)
    (case nf_InvalidPaper_word => k_is)
    (case fi_InvalidPaper => k_is)
    (case ft_InvalidPaper => k_is)
    (case fl_InvalidPaper => k_is)
    (case fc_InvalidPaper => k_is)
    (case fk_InvalidPaper => k_is)
    (case zs => k_is)
    (case zt => k_is)
    (case es_InvalidPaper_InvalidPaper => kernel_rfl)
    (case es_InvalidPaper_LateError => kernel_rfl)
    (case ki_InvalidPaper_InvalidPaper => kernel_rfl)
    (case ki_InvalidPaper_InvalidText => kernel_rfl)
    (case ki_InvalidPaper_PaperError => kernel_rfl)
    (case ki_InvalidPaper_StoreError => kernel_rfl)
    (case ki_InvalidPaper_TextError => kernel_rfl)
    (case ki_InvalidPaper_UnfitExpression => kernel_rfl)
    (case ki_InvalidPaper_UnknownObject => kernel_rfl)
    (case kt_InvalidPaper_0 => kernel_rfl)
